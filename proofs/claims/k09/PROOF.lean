import PyProof.Rows.All
import Wide.All
import OpenK.AllK
import Wide.FinOn
import HandS.ForMost
import HandS.Wide
import HandS.ExcInit
import HandS.ExcField
import HandS.WordsExc
import HandS.Style
import KE.GoesEnum
import HandS.Walk
import PyProof.EnumMake
import KE.GoesMore
import HandS.ExcOwn
import HandS.Exc
import HandS.Replace
import HandS.NestedK
import KE.KDictDisplayH
import KE.GoesZip
import HandS.OwnEq
import HandS.NamedTupGet
import HandS.SlotsOwn
import HandS.List
import HandS.IsInst
import PyProof.Rows.Range3
import HandS.DictComp
import HandS.FStr
import KE.GoesEnumKw
import HandS.Iter
import HandS.IterVal
import HandS.Set
import HandS.SetFor
import HandS.SetTxtIn
import HandS.Strs
import PyProof.ListStr
import HandS.StrMore
import HandS.Codes
import HandS.Deep
import HandS.Steps
import PyProof.StrOps2
import HandS.MapJoin
import HandS.Rev
import HandS.Star
import HandS.Zip
import HandS.Call
import HandS.ClsMeth
import HandS.ExcIs
import PySem.Challenge.RW_bestcodes_k09_texts_of_codes
set_option Elab.async false
set_option linter.all false
set_option maxRecDepth 100000
set_option maxHeartbeats 4000000
/-! the pen -/
namespace Vf
open PySem L2 PyProof.Rows
theorem nCA : ¬ (("cells" : Str) = "at") := by decide +kernel
theorem nCL : ¬ (("cells" : Str) = "left") := by decide +kernel
theorem nAL : ¬ (("at" : Str) = "left") := by decide +kernel
theorem nAC : ¬ (("at" : Str) = "cells") := by decide +kernel
theorem nLC : ¬ (("left" : Str) = "cells") := by decide +kernel
theorem nLA : ¬ (("left" : Str) = "at") := by decide +kernel
def penKV (c : Addr) (a l : Int) : List (Key × V) := [(Sum.inr "cells", .ref c), (Sum.inr "at", .int a), (Sum.inr "left", .int l)]
theorem pen_cells (c : Addr) (a l : Int) : valV (penKV c a l) (Sum.inr "cells") = some (.ref c) := by
  simp [valV, penKV]
theorem pen_at (c : Addr) (a l : Int) : valV (penKV c a l) (Sum.inr "at") = some (.int a) := by
  simp [valV, penKV, nCA]
theorem pen_left (c : Addr) (a l : Int) : valV (penKV c a l) (Sum.inr "left") = some (.int l) := by
  simp [valV, penKV, nCL, nAL]
theorem pen_putAt (c : Addr) (a l b : Int) : putK (penKV c a l) (Sum.inr "at") (.int b) = penKV c b l := by
  simp [putK, penKV, nCA, nLA]
theorem pen_putLeft (c : Addr) (a l b : Int) : putK (penKV c a l) (Sum.inr "left") (.int b) = penKV c a b := by
  simp [putK, penKV, nCL, nAL]
theorem pen_merge (c : Addr) (a l : Int) : mergeK [] (penKV c a l) = penKV c a l := by
  simp [mergeK, penKV, putK, nCA, nCL, nAL]
/-- what a call may leave of the heap: all but the pen at p -/
def Kp (p : Addr) (H H' : Hp) : Prop := ∀ b o, H b = some o → b ≠ p → H' b = some o
theorem Kp.refl (p : Addr) (H : Hp) : Kp p H H := fun _ _ h _ => h
theorem Kp.trans {p : Addr} {H H1 H2 : Hp} (a : Kp p H H1) (b : Kp p H1 H2) : Kp p H H2 := fun c o h n => b c o (a c o h n) n
theorem Kp.of {p : Addr} {H H1 : Hp} (s : Same H H1) : Kp p H H1 := fun b o h _ => s b o h
/-- the pen: a dict of the script's cells, the place, what is left -/
def PenO (H : Hp) (p c : Addr) (a l : Int) (cs : List Int) : Prop := H p = some (.dK (penKV c a l)) ∧ H c = some (.lst (cs.map V.int)) ∧ cs.length ≤ 63 ∧ 0 ≤ a ∧ 0 ≤ l
def Pen (H : Hp) (p c : Addr) (n : Nat) : Prop := ∃ a l cs, PenO H p c a l cs ∧ a ≤ n
theorem PenO.ne {H : Hp} {p c : Addr} {a l : Int} {cs : List Int} (P : PenO H p c a l cs) : c ≠ p := ne_of P.2.1 P.1 (by intro z; cases z)
theorem Pen.mono {H : Hp} {p c : Addr} {n m : Nat} (P : Pen H p c n) (h : n ≤ m) : Pen H p c m := by
  obtain ⟨a, l, cs, q, r⟩ := P
  exact ⟨a, l, cs, q, by omega⟩
theorem Pen.same {H H' : Hp} {p c : Addr} {n : Nat} (P : Pen H p c n) (s : Same H H') : Pen H' p c n := by
  obtain ⟨a, l, cs, ⟨q1, q2, q3⟩, r⟩ := P
  exact ⟨a, l, cs, ⟨s _ _ q1, s _ _ q2, q3⟩, r⟩
theorem Pen.dk {H : Hp} {p c : Addr} {n : Nat} (P : Pen H p c n) : ∃ kvs, H p = some (.dK kvs) := by
  obtain ⟨a, l, cs, ⟨q1, _⟩, _⟩ := P
  exact ⟨_, q1⟩
/-- another object is written -/
theorem Pen.put {H : Hp} {p c r : Addr} {n : Nat} {o : HO} (P : Pen H p c n) (h1 : r ≠ p) (h2 : r ≠ c) : Pen (upd H r o) p c n := by
  obtain ⟨a, l, cs, ⟨q1, q2, q3⟩, z⟩ := P
  exact ⟨a, l, cs, ⟨by rw [upd_ne h1.symm]; exact q1, by rw [upd_ne h2.symm]; exact q2, q3⟩, z⟩
theorem Pen.new {H : Hp} {p c r : Addr} {n : Nat} (P : Pen H p c n) (h : H r = none) : r ≠ p ∧ r ≠ c := by
  obtain ⟨a, l, cs, ⟨q1, q2, q3⟩, z⟩ := P
  exact ⟨(ne_of_none q1 h).symm, (ne_of_none q2 h).symm⟩
theorem Kp.free {p c l : Addr} {n : Nat} {H H' : Hp} (k : Kp p H H') (P : Pen H' p c n) (h : H' l = none) : H l = none := by
  cases e : H l with
  | none => rfl
  | some o =>
    have := k l o e (P.new h).1
    rw [h] at this; cases this
theorem Kp.put {p r : Addr} {H H' : Hp} {o : HO} (k : Kp p H H') (h : H r = none) : Kp p H (upd H' r o) := fun b u e n => by
  rw [upd_ne (ne_of_none e h)]
  exact k b u e n
/-- a new object beside -/
theorem same_new {H : Hp} {a : Addr} {o : HO} (h : H a = none) : Same H (upd H a o) := fun b u e => by
  rw [upd_ne (ne_of_none e h)]
  exact e
theorem Same.upd {H H' : Hp} {a : Addr} {o : HO} (s : Same H H') (h : H a = none) : Same H (upd H' a o) := fun b u e => by
  rw [upd_ne (ne_of_none e h)]
  exact s b u e
theorem kp_upd {H : Hp} {p : Addr} {o : HO} : Kp p H (L2.upd H p o) := fun b u e n => by
  rw [upd_ne n]
  exact e
theorem dget_left {H : Hp} {p c : Addr} {a l : Int} (h : H p = some (.dK (penKV c a l))) : DGet H p (.str "left") (some (.int l)) := by
  have := DGet.k (k := Sum.inr "left") h
  rw [pen_left] at this
  exact this
theorem dget_at {H : Hp} {p c : Addr} {a l : Int} (h : H p = some (.dK (penKV c a l))) : DGet H p (.str "at") (some (.int a)) := by
  have := DGet.k (k := Sum.inr "at") h
  rw [pen_at] at this
  exact this
theorem dget_cells {H : Hp} {p c : Addr} {a l : Int} (h : H p = some (.dK (penKV c a l))) : DGet H p (.str "cells") (some (.ref c)) := by
  have := DGet.k (k := Sum.inr "cells") h
  rw [pen_cells] at this
  exact this
theorem dput_left {H : Hp} {p c : Addr} {a l b : Int} (h : H p = some (.dK (penKV c a l))) : DPut H p (.str "left") (.int b) (L2.upd H p (.dK (penKV c a b))) := by
  have := DPut.k (k := Sum.inr "left") (v := .int b) h (by show 3 < sizeLine; decide)
  rw [pen_putLeft] at this
  exact this
theorem dput_at {H : Hp} {p c : Addr} {a l b : Int} (h : H p = some (.dK (penKV c a l))) : DPut H p (.str "at") (.int b) (L2.upd H p (.dK (penKV c b l))) := by
  have := DPut.k (k := Sum.inr "at") (v := .int b) h (by show 3 < sizeLine; decide)
  rw [pen_putAt] at this
  exact this
theorem dp_ints (K : PySem.W.Frag) {H : Hp} {c : Addr} {cs : List Int} (h : H c = some (.lst (cs.map V.int))) : Dp K H (.ref c) (.list (cs.map PyData.int)) := by
  refine .lst (SqL.of h) ?_
  clear h
  induction cs with
  | nil => exact .nil
  | cons x r ih => exact .cons (.int x) ih
theorem eqv_ints_nil (cs : List Int) : PyData.eqv (.list (cs.map PyData.int)) (.list []) = cs.isEmpty := by
  cases cs with
  | nil => simp [PyData.eqv, PyData.eqvAll]
  | cons x r => simp [PyData.eqv, PyData.eqvAll]
theorem shaped_nil : SeqAt.shaped (.list []) = true := PySem.W.shaped_ints []
theorem fmod_bounds {x m : Int} (h : 0 < m) : 0 ≤ x.fmod m ∧ x.fmod m < m := by
  rw [Int.fmod_eq_emod_of_nonneg x (Int.le_of_lt h)]
  exact ⟨Int.emod_nonneg _ (by omega), Int.emod_lt_of_pos _ h⟩
theorem log_lt {m : Int} (h0 : 0 < m) (h : m < 2 ^ 200) : m.natAbs.log2 < 9000 := by
  have : m.natAbs < 2 ^ 200 := by omega
  exact Nat.lt_of_lt_of_le (PySem.Flt.log2_lt_of (by decide) this) (by decide)
end Vf
set_option Elab.async false
set_option linter.all false
set_option maxRecDepth 100000
set_option maxHeartbeats 4000000
/-! texts of one sign, letters -/
namespace Vf
open PySem L2 PyProof.Rows
/-- a text of one sign -/
def sg (c : Nat) : Str := ⟨#[c]⟩
theorem sg_tl (c : Nat) : TL.tl (sg c) = [c] := rfl
theorem sg_inj {c d : Nat} (h : sg c = sg d) : c = d := by
  have : TL.tl (sg c) = TL.tl (sg d) := by rw [h]
  rw [sg_tl, sg_tl] at this
  exact List.cons.inj this |>.1
theorem joinL_sg : ∀ cs : List Nat, TL.joinL [] ((cs.map sg).map TL.tl) = cs
  | [] => rfl
  | [c] => rfl
  | c :: d :: r => by
    have ih := joinL_sg (d :: r)
    show [c] ++ ([] ++ TL.joinL [] (((d :: r).map sg).map TL.tl)) = c :: d :: r
    rw [ih]; rfl
theorem join_sg (cs : List Nat) : TL.tl (Txt.join Str.empty (cs.map sg)) = cs := by
  rw [TL.join_eq, TL.tl_join]
  exact joinL_sg cs
theorem sum_sg (cs : List Nat) : ((cs.map sg).map (·.length)).sum = cs.length := by
  induction cs with
  | nil => rfl
  | cons c r ih =>
    simp only [List.map_cons, List.sum_cons, ih, List.length_cons]
    show 1 + r.length = r.length + 1
    omega
/-- what is a permutation of texts of one sign, is such -/
theorem perm_sg : ∀ {ys : List Str} {cs : List Nat}, ys.Perm (cs.map sg) → ∃ ds : List Nat, ys = ds.map sg ∧ ds.Perm cs := by
  intro ys cs h
  have hall : ∀ y ∈ ys, ∃ c, y = sg c := fun y hy => by
    obtain ⟨c, _, e⟩ := List.mem_map.mp (h.mem_iff.mp hy)
    exact ⟨c, e.symm⟩
  have : ∃ ds : List Nat, ys = ds.map sg := by
    clear h
    induction ys with
    | nil => exact ⟨[], rfl⟩
    | cons y r ih =>
      obtain ⟨c, e⟩ := hall y (List.mem_cons_self ..)
      obtain ⟨ds, e2⟩ := ih fun z hz => hall z (List.mem_cons_of_mem _ hz)
      exact ⟨c :: ds, by rw [e, e2]; rfl⟩
  obtain ⟨ds, e⟩ := this
  refine ⟨ds, e, ?_⟩
  rw [e] at h
  have g : ∀ l : List Nat, (l.map sg).map (fun s => s.cps.toList.headD 0) = l := fun l => by
    rw [List.map_map]
    exact List.map_id'' (fun c => rfl) l
  have := h.map (fun s : Str => s.cps.toList.headD 0)
  rw [g, g] at this
  exact this
theorem rising_sg : ∀ (cs : List Nat) (p : Nat), PyProof.Rows.risingS (sg p) (cs.map sg) = true → (p :: cs).Pairwise (· ≤ ·)
  | [], p, _ => List.pairwise_singleton _ _
  | c :: r, p, h => by
    have h' : (!PySem.Spec.ltCps (sg c).cps.toList (sg p).cps.toList && PyProof.Rows.risingS (sg c) (r.map sg)) = true := h
    rw [Bool.and_eq_true] at h'
    have ih := rising_sg r c h'.2
    have hpc : p ≤ c := by
      have h1 := h'.1
      have e : PySem.Spec.ltCps (sg c).cps.toList (sg p).cps.toList = PySem.Spec.ltCps [c] [p] := rfl
      rw [e] at h1
      by_cases q : c < p
      · exfalso
        simp [PySem.Spec.ltCps, q] at h1
      · omega
    refine List.pairwise_cons.mpr ⟨fun d hd => ?_, ih⟩
    rcases List.mem_cons.mp hd with e | hd
    · omega
    · have := (List.pairwise_cons.mp ih).1 d hd
      omega
theorem sorted_sg {cs : List Nat} (h : PyProof.Rows.sortedS (cs.map sg) = true) : cs.Pairwise (· ≤ ·) := by
  cases cs with
  | nil => exact List.Pairwise.nil
  | cons c r => exact rising_sg r c h
/-- letters: ascending, from a to z -/
def Ltr (z : Str) (m : Nat) : Prop := z.length = m ∧ (TL.tl z).Pairwise (· < ·) ∧ ∀ c ∈ TL.tl z, 97 ≤ c ∧ c ≤ 122
def alpha : List Nat := TL.tl (Str.ofString "abcdefghijklmnopqrstuvwxyz")
theorem alpha_nodup : alpha.Nodup := by decide +kernel
theorem alpha_all : ∀ c ∈ alpha, 97 ≤ c ∧ c ≤ 122 := by decide +kernel
theorem alpha_len : alpha.length = 26 := by decide +kernel
theorem ltr_of {fs ds L : List Nat} (hp : (fs ++ L).Perm alpha) (hd : ds.Perm fs) (hs : ds.Pairwise (· ≤ ·)) : ds.Pairwise (· < ·) ∧ ∀ c ∈ ds, 97 ≤ c ∧ c ≤ 122 := by
  have nd : (fs ++ L).Nodup := hp.nodup_iff.mpr alpha_nodup
  have ndf : ds.Nodup := hd.nodup_iff.mpr (List.nodup_append.mp nd).1
  refine ⟨?_, fun c hc => alpha_all c (hp.mem_iff.mp (List.mem_append_left _ (hd.mem_iff.mp hc)))⟩
  have : ds.Pairwise (fun a b => a ≤ b ∧ a ≠ b) := List.Pairwise.and hs ndf
  exact this.imp fun ⟨h1, h2⟩ => by omega
theorem cutS_tl (z : Str) (lo hi : Option Int) : TL.tl (cutS z lo hi) = ((TL.tl z).drop (HT.sIx z.length 0 lo)).take (HT.sIx z.length z.length hi - HT.sIx z.length 0 lo) := by
  unfold cutS TL.tl
  simp
theorem cut_to {z : Str} {j : Nat} (h : j ≤ z.length) : TL.tl (cutS z none (some (j : Int))) = (TL.tl z).take j := by
  rw [cutS_tl, HT.sIx_none, HT.sIx_nat, List.drop_zero, Nat.min_eq_left h, Nat.sub_zero]
theorem cut_from {z : Str} {j : Nat} (h : j ≤ z.length) : TL.tl (cutS z (some (j : Int)) none) = (TL.tl z).drop j := by
  rw [cutS_tl, HT.sIx_none, HT.sIx_nat, Nat.min_eq_left h]
  exact List.take_of_length_le (by rw [List.length_drop, TL.len_tl]; omega)
theorem kp_seq {K : PySem.W.Frag} {p a : Addr} {H H' : Hp} {kvs : List (Key × V)} {xs : List V} (k : Kp p H H') (hp : H p = some (.dK kvs)) (h : SqL K H a xs) : SqL K H' a xs := by
  rcases h with (h | ⟨o, h⟩) | h
  · exact .inl (.inl (k _ _ h (ne_of h hp (by intro z; cases z))))
  · exact .inl (.inr ⟨o, k _ _ h (ne_of h hp (by intro z; cases z))⟩)
  · exact .inr h
theorem kp_seqT {K : PySem.W.Frag} {p a : Addr} {H H' : Hp} {kvs : List (Key × V)} {xs : List V} (k : Kp p H H') (hp : H p = some (.dK kvs)) (h : SqT K H a xs) : SqT K H' a xs := by
  rcases h with (h | ⟨o, h⟩) | h
  · exact .inl (.inl (k _ _ h (ne_of h hp (by intro z; cases z))))
  · exact .inl (.inr ⟨o, k _ _ h (ne_of h hp (by intro z; cases z))⟩)
  · exact .inr h
theorem at_of' {α : Type} {xs : List α} {z : Int} {j : Nat} {v : α} (e : z = (j : Int)) (h : xs[j]? = some v) : atI xs z = some v := by
  rw [e]
  exact atI_nat h
end Vf
set_option Elab.async false
set_option linter.all false
set_option maxRecDepth 100000
set_option maxHeartbeats 4000000
namespace Vf
open PySem L2 PyProof.Rows
def top (i : Nat) : Stmt := PySem.Challenge.pw_bestcodes_k09_texts_of_codes.main.body.getD i (.Pass ⟨0, 0, 0, 0⟩)
structure TxtA (K : PySem.W.Frag) (mg : Str → Option Value) : Prop where
  int : mg "int" = none
  len : mg "len" = none
  list : mg "list" = none
  range : mg "range" = none
  sorted : mg "sorted" = none
def spPen (K : PySem.W.Frag) : Sp := fun vs H Q _ => ∃ (s : Addr) (ns : List Int), vs = [.ref s] ∧ SqL K H s (ns.map V.int) ∧ ns.length ≤ 63 ∧
  ∀ (p c : Addr) (H' : Hp), H p = none → H c = none → Pen H' p c 0 → Same H H' → Q (.ref p) H'
def spDraw : Sp := fun vs H Q _ => ∃ (p c : Addr) (m : Int) (n : Nat), vs = [.ref p, .int m] ∧ Pen H p c n ∧ n ≤ 2 ^ 30 ∧ 0 < m ∧ m < 2 ^ 200 ∧
  ∀ (d : Int) (H' : Hp), 0 ≤ d → d < m → Pen H' p c (n + 1) → Kp p H H' → Q (.int d) H'
/-- a pick out of a list; out of a text -/
def spPickL (K : PySem.W.Frag) : Sp := fun vs H Q _ => ∃ (p c a : Addr) (xs : List V) (n : Nat), vs = [.ref p, .ref a] ∧ Pen H p c n ∧ n ≤ 2 ^ 30 ∧ SqL K H a xs ∧ 0 < xs.length ∧ xs.length ≤ 1000 ∧
  ∀ (j : Nat) (v : V) (H' : Hp), xs[j]? = some v → Pen H' p c (n + 1) → Kp p H H' → Q v H'
def spPickS : Sp := fun vs H Q _ => ∃ (p c : Addr) (z : Str) (n : Nat), vs = [.ref p, .str z] ∧ Pen H p c n ∧ n ≤ 2 ^ 30 ∧ 0 < z.length ∧ z.length ≤ 1000 ∧
  ∀ (j x : Nat) (H' : Hp), (TL.tl z)[j]? = some x → Pen H' p c (n + 1) → Kp p H H' → Q (.str (sg x)) H'
def spLetters : Sp := fun vs H Q _ => ∃ (p c : Addr) (m : Nat) (n : Nat), vs = [.ref p, .int m] ∧ Pen H p c n ∧ n ≤ 2 ^ 29 ∧ m ≤ 26 ∧
  ∀ (z : Str) (H' : Hp), Ltr z m → Pen H' p c (n + m) → Kp p H H' → Q (.str z) H'
def spBits : Sp := fun vs H Q _ => ∃ (p c : Addr) (n : Nat), vs = [.ref p] ∧ Pen H p c n ∧ n ≤ 2 ^ 29 ∧
  ∀ (d : Int) (H' : Hp), 0 ≤ d → d < 100 → Pen H' p c (n + 3) → Kp p H H' → Q (.int d) H'
section
variable {P : Program} {w : World} {K : PySem.W.Frag} {mg : Str → Option Value} {base : Heap}
abbrev s__law_pen : Stmt := top 18
abbrev N__law_pen : List Str := ["_law_script"]
abbrev P__law_pen : List Str := ["_law_script"]
theorem sc__law_pen : FnScope N__law_pen P__law_pen (defScope s__law_pen) := ⟨rfl, rfl, rfl, by decide +kernel, rfl, by decide +kernel, by decide +kernel⟩

theorem ok_pen {f : Addr} {fd : FuncData} (F : Fun K "_law_pen" "_law_pen" s__law_pen f fd) (T : TxtA K mg) : FnOk P w K mg base CX0 1 f fd P__law_pen (spPen K) := by
  refine F.ok sc__law_pen (fun vs H Q E h => ?_) (fun cdv A outer s H vs Q E hr h => ?_)
  · obtain ⟨s, ns, rfl, _⟩ := h
    rfl
  · obtain ⟨s, ns, rfl, hS, hl, k⟩ := h
    refine ⟨_, (pss_one (ps_ret (pe_disp (pps_cons pe_str (pe_callTy call_list_of (by rfl) T.list boot_list (pa_cons (pe_slice sl_list (pv 0) po_none (po_some pe_int)) pa_nil)) (pps_cons pe_str pe_int (pps_cons pe_str pe_int pps_nil))) (by rfl) (by rfl) (fun z => by cases z) (by decide)))), ?_⟩
    intro p hp
    have s1 : Same H (L2.upd H p (.dK [])) := same_new hp
    refine ⟨_, rfl, _, rfl, s, _, rfl, s1.seq hS, fun q hq => ?_⟩
    have nqp : q ≠ p := (ne_of_none (upd_same (H := H) (a := p)) hq).symm
    refine ⟨q, _, rfl, Or.inl (SqL.of upd_same), fun c hc => ?_⟩
    have ncp : c ≠ p := fun e => by rw [e, upd_ne nqp.symm, upd_same] at hc; cases hc
    have ncq : c ≠ q := fun e => by rw [e, upd_same] at hc; cases hc
    refine ⟨(by rw [upd_ne ncp.symm, upd_ne nqp.symm, upd_same]), penKV c 0 0, rfl, (by show 3 ≤ 15; decide), ?_⟩
    rw [pen_merge]
    have hcn : H c = none := s1.free ((same_new hq).free hc)
    have hqn : H q = none := s1.free hq
    have ec : cutV (ns.map V.int) none (some 63) = (ns.take 63).map V.int := by
      rw [List.take_of_length_le hl]
      unfold cutV
      simp [HT.sIx]
      exact List.take_of_length_le (by rw [List.length_map]; omega)
    refine k p c _ hp hcn ⟨0, 0, ns.take 63, ⟨upd_same, ?_, ?_, by decide, by decide⟩, by decide⟩ ?_
    · rw [upd_ne ncp, upd_same, ec]
    · rw [List.length_take]; omega
    · intro b o e
      rw [upd_ne (ne_of_none e hp), upd_ne (ne_of_none e hcn), upd_ne (ne_of_none e hqn), upd_ne (ne_of_none e hp)]
      exact e
abbrev s__law_draw : Stmt := top 19
abbrev N__law_draw : List Str := ["_law_pen_here", "_law_many", "_law_digit", "_law_at", "_law_cell", "_law_mixed"]
abbrev P__law_draw : List Str := ["_law_pen_here", "_law_many"]
theorem sc__law_draw : FnScope N__law_draw P__law_draw (defScope s__law_draw) := ⟨rfl, rfl, rfl, by decide +kernel, rfl, by decide +kernel, by decide +kernel⟩

theorem ok_draw {f : Addr} {fd : FuncData} (F : Fun K "_law_draw" "_law_draw" s__law_draw f fd) (T : TxtA K mg) : FnOk P w K mg base CX0 1 f fd P__law_draw spDraw := by
  refine F.ok sc__law_draw (fun vs H Q E h => ?_) (fun cdv A outer s H vs Q E hr h => ?_)
  · obtain ⟨p, c, m, n, rfl, _⟩ := h
    rfl
  · obtain ⟨p, c, m, n, rfl, ⟨a, l, cs, ⟨h1, h2, h3, h4, h5⟩, h6⟩, hn, m0, m1, k⟩ := h
    have hu := hu_of hr
    have ncp : c ≠ p := ne_of h2 h1 (by intro z; cases z)
    refine ⟨_, (pss_cons (ps_if (pt_cmpR op_ge (pe_dget hu (pv 0) pe_str (fun _ _ => rfl)) (pv 1) (nomark _)) (pss_cons (ps_set (i := 2) sc__law_draw.nd rfl (Or.inl rfl) (pe_op op_modN (pe_callTy call_int1 (by rfl) T.int boot_int (pa_cons (pe_dget hu (pv 0) pe_str (fun _ _ => rfl)) pa_nil)) (pv 1)))
      (pss_cons (ps_dput hu (pv 0) pe_str (pe_op op_fdivW (pe_dget hu (pv 0) pe_str (fun _ _ => rfl)) (pv 1)) rfl)
      (pss_one (ps_ret (pv 2))))) pss_nil)
      (pss_cons (ps_set (i := 3) sc__law_draw.nd rfl (Or.inl rfl) (pe_dget hu (pv 0) pe_str (fun _ _ => rfl)))
      (pss_cons (ps_dput hu (pv 0) pe_str (pe_op op_add (pv 3) pe_int) rfl)
      (pss_cons (ps_set (i := 4) sc__law_draw.nd rfl (Or.inl rfl) (pe_op op_add (pe_op op_mul pe_int (pv 3)) pe_int))
      (pss_cons (ps_if (pt_cmpR (op_neD hr.units) (pe_dget hu (pv 0) pe_str (fun _ _ => rfl)) (pe_lst pa_nil) (nomark _)) (pss_one (ps_set (i := 4) sc__law_draw.nd rfl (Or.inl rfl) (pe_ix ix_list (pe_dget hu (pv 0) pe_str (fun _ _ => rfl)) (pe_op op_modN (pe_callTy call_int1 (by rfl) T.int boot_int (pa_cons (pv 3) pa_nil)) (pe_callB call_len (by rfl) T.len PySem.boot_len (pa_cons (pe_dget hu (pv 0) pe_str (fun _ _ => rfl)) pa_nil))) (fun _ _ => rfl)))) pss_nil)
      (pss_cons (ps_if (PW.pt (pw_and (pt_cmpR op_lt (pv 3) (pe_callB call_len (by rfl) T.len PySem.boot_len (pa_cons (pe_dget hu (pv 0) pe_str (fun _ _ => rfl)) pa_nil)) (nomark _)) (pw_and1 (pt_cmpR op_ge (pv 4) (pe_op op_pow pe_int pe_int) (nomark _))))) (pss_cons (ps_dput hu (pv 0) pe_str (pe_op op_fdivW (pe_op op_sub (pv 4) (pe_op op_pow pe_int pe_int)) (pv 1)) rfl)
      (pss_one (ps_ret (pe_op op_modN (pe_callTy call_int1 (by rfl) T.int boot_int (pa_cons (pe_op op_sub (pv 4) (pe_op op_pow pe_int pe_int)) pa_nil)) (pv 1))))) pss_nil)
      (pss_cons (ps_set (i := 5) sc__law_draw.nd rfl (Or.inl rfl) (pe_op op_add (pe_op op_add (pe_op op_add (pe_op op_mul (pe_op op_modN (pe_callTy call_int1 (by rfl) T.int boot_int (pa_cons (pv 4) pa_nil)) pe_int) pe_int) (pe_op op_mul (pe_op op_mul pe_int (pv 3)) (pv 3))) (pe_op op_mul pe_int (pv 3))) pe_int))
      (pss_cons (ps_set (i := 5) sc__law_draw.nd rfl (Or.inl rfl) (pe_op op_modN (pe_callTy call_int1 (by rfl) T.int boot_int (pa_cons (pv 5) pa_nil)) pe_int))
      (pss_cons (ps_set (i := 5) sc__law_draw.nd rfl (Or.inl rfl) (pe_op op_modN (pe_callTy call_int1 (by rfl) T.int boot_int (pa_cons (pe_op op_mul (pv 5) (pe_op op_add (pv 5) pe_int)) pa_nil)) pe_int))
      (pss_one (ps_ret (pe_op op_modN (pe_callTy call_int1 (by rfl) T.int boot_int (pa_cons (pe_op op_fdivN (pe_op op_modN (pe_callTy call_int1 (by rfl) T.int boot_int (pa_cons (pe_op op_mul (pv 5) (pv 5)) pa_nil)) pe_int) pe_int) pa_nil)) (pv 1))))))))))))), ?_⟩
    -- if pen['left'] >= many
    refine ⟨_, rfl, p, _, rfl, dget_left h1, _, rfl, _, _, rfl, rfl, _, rfl, ite2 (fun c1 => ?_) (fun c1 => ?_)⟩
    · have c1 : m ≤ l := by simpa using c1
      refine ⟨_, rfl, p, _, rfl, dget_left h1, Or.inl ⟨_, rfl, _, rfl, _, _, rfl, rfl, (by omega), ?_⟩⟩
      refine ⟨_, rfl, p, _, rfl, dget_left h1, _, rfl, _, _, rfl, rfl, ⟨m0, log_lt m0 m1⟩, _, rfl, p, _, rfl, dput_left h1, ?_⟩
      refine ⟨_, rfl, k _ _ (fmod_bounds m0).1 (fmod_bounds m0).2 ⟨a, l / m, cs, ⟨upd_same, by rw [upd_ne ncp]; exact h2, h3, h4, Int.ediv_nonneg h5 (by omega)⟩, by omega⟩ kp_upd⟩
    · -- at; pen['at'] = at + 1; cell = 41 * at + 23
      refine ⟨_, rfl, p, _, rfl, dget_at h1, ?_⟩
      refine ⟨_, rfl, _, _, rfl, rfl, _, rfl, p, _, rfl, dput_at h1, ?_⟩
      have g1 : (L2.upd H p (.dK (penKV c (a + 1) l))) p = some (.dK (penKV c (a + 1) l)) := upd_same
      have g2 : (L2.upd H p (.dK (penKV c (a + 1) l))) c = some (.lst (cs.map V.int)) := by rw [upd_ne ncp]; exact h2
      have gk : Kp p H (L2.upd H p (.dK (penKV c (a + 1) l))) := kp_upd
      revert g1 g2 gk
      generalize L2.upd H p (.dK (penKV c (a + 1) l)) = H1
      intro g1 g2 gk
      refine ⟨_, rfl, _, _, rfl, rfl, Or.inl ⟨by decide, by decide⟩, _, _, rfl, rfl, ?_⟩
      -- the cell
      refine ⟨_, rfl, p, _, rfl, dget_cells g1, (by show 0 ≤ sizeLine; decide), fun q hq => ?_⟩
      have nqp : q ≠ p := (ne_of_none g1 hq).symm
      have nqc : q ≠ c := (ne_of_none g2 hq).symm
      have k1 : (L2.upd H1 q (.lst [])) p = some (.dK (penKV c (a + 1) l)) := by rw [upd_ne nqp.symm]; exact g1
      have k2 : (L2.upd H1 q (.lst [])) c = some (.lst (cs.map V.int)) := by rw [upd_ne nqc.symm]; exact g2
      have kk : Kp p H (L2.upd H1 q (.lst [])) := gk.trans (Kp.of (same_new hq))
      refine ⟨_, _, dp_ints K k2, .lst (SqL.of upd_same) .nil, PySem.W.shaped_ints cs, shaped_nil, _, rfl, ?_⟩
      rw [eqv_ints_nil]
      revert k1 k2 kk
      generalize L2.upd H1 q (.lst []) = H2
      intro k1 k2 kk
      refine ite2 (fun c2 => ?_) (fun c2 => ?_)
      · have hlen : 0 < cs.length := by cases cs with | nil => simp at c2 | cons x r => simp
        have hm := fmod_bounds (x := a) (m := ((cs.map V.int).length : Int)) (by rw [List.length_map]; omega)
        have hj : (a.fmod ((cs.map V.int).length : Int)).toNat < cs.length := by rw [List.length_map] at *; omega
        refine ⟨_, rfl, p, _, rfl, dget_cells k1, _, rfl, Or.inl ⟨_, rfl, _, rfl, p, _, rfl, dget_cells k1, _, _, rfl, Or.inl ⟨_, SqL.of k2, rfl⟩, _, _, rfl, rfl, (by rw [List.length_map]; omega), ?_⟩⟩
        refine ⟨c, _, _, V.int (cs[(a.fmod ((cs.map V.int).length : Int)).toNat]), rfl, rfl, SqL.of k2, ?_, ?_⟩
        · exact at_of (Int.toNat_of_nonneg hm.1).symm (by rw [List.getElem?_map, List.getElem?_eq_getElem hj]; rfl)
        · generalize cs[(a.fmod ((cs.map V.int).length : Int)).toNat] = x
          refine ⟨_, rfl, _, rfl, p, _, rfl, dget_cells k1, V.ref c, _, rfl, Or.inl ⟨_, SqL.of k2, rfl⟩, _, _, rfl, rfl, _, rfl, ite2 (fun c3 => ?_) (fun c3 => ?_)⟩
          · refine ⟨_, rfl, _, _, rfl, rfl, ⟨by decide, by decide, by decide⟩, _, _, rfl, rfl, _, rfl, ite2 (fun c4 => ?_) (fun c4 => ?_)⟩
            · have c4 : (10 : Int) ^ 18 ≤ x := by simpa using c4
              refine ⟨_, rfl, _, _, rfl, rfl, ⟨by decide, by decide, by decide⟩, _, _, rfl, rfl, _, rfl, _, _, rfl, rfl, ⟨m0, log_lt m0 m1⟩, _, rfl, p, _, rfl, dput_left k1, ?_⟩
              refine ⟨_, rfl, _, _, rfl, rfl, ⟨by decide, by decide, by decide⟩, _, _, rfl, rfl, Or.inl ⟨_, rfl, _, rfl, _, _, rfl, rfl, (by omega), ?_⟩⟩
              refine k _ _ (fmod_bounds m0).1 (fmod_bounds m0).2 ⟨a + 1, _, cs, ⟨upd_same, by rw [upd_ne ncp]; exact k2, h3, by omega, Int.ediv_nonneg ?_ (by omega)⟩, by omega⟩ (kk.trans kp_upd)
              show 0 ≤ x - 10 ^ 18
              omega
            · refine ⟨_, rfl, Or.inl ⟨_, rfl, _, _, rfl, rfl, (by show (2147483587 : Int) ≠ 0; decide), _, _, rfl, rfl, Or.inr ⟨by decide, by decide⟩, ?_⟩⟩
              refine ⟨_, rfl, _, _, rfl, rfl, Or.inl ⟨by decide, by decide⟩, _, rfl, _, _, rfl, rfl, Or.inr ⟨by omega, by omega⟩, ?_⟩
              refine ⟨_, _, rfl, rfl, _, rfl, _, _, rfl, rfl, Or.inl ⟨by decide, by decide⟩, _, _, rfl, rfl, _, _, rfl, rfl, ?_⟩
              refine ⟨_, rfl, Or.inl ⟨_, rfl, _, _, rfl, rfl, (by show (2147483629 : Int) ≠ 0; decide), ?_⟩⟩
              have hz := fmod_bounds (x := x.fmod 2147483587 * 48271 + 40014 * a * a + 59 * a + 17) (m := 2147483629) (by decide)
              refine ⟨_, rfl, _, rfl, _, _, rfl, rfl, _, _, rfl, rfl, Or.inl ⟨by omega, by omega⟩, Or.inl ⟨_, rfl, _, _, rfl, rfl, (by show (2147483549 : Int) ≠ 0; decide), ?_⟩⟩
              refine ⟨_, rfl, _, rfl, _, _, rfl, rfl, Or.inl ?_, Or.inl ⟨_, rfl, _, _, rfl, rfl, (by show (2147483579 : Int) ≠ 0; decide), _, _, rfl, rfl, ⟨by decide, by decide⟩, Or.inl ⟨_, rfl, _, rfl, _, _, rfl, rfl, (by omega), ?_⟩⟩⟩
              · have hy := fmod_bounds (x := (x.fmod 2147483587 * 48271 + 40014 * a * a + 59 * a + 17).fmod 2147483629 * ((x.fmod 2147483587 * 48271 + 40014 * a * a + 59 * a + 17).fmod 2147483629 + 69621)) (m := 2147483549) (by decide)
                exact ⟨by omega, by omega⟩
              exact k _ _ (fmod_bounds m0).1 (fmod_bounds m0).2 ⟨a + 1, l, cs, ⟨k1, k2, h3, by omega, h5⟩, by omega⟩ kk
          · refine ⟨_, rfl, Or.inl ⟨_, rfl, _, _, rfl, rfl, (by show (2147483587 : Int) ≠ 0; decide), _, _, rfl, rfl, Or.inr ⟨by decide, by decide⟩, ?_⟩⟩
            refine ⟨_, rfl, _, _, rfl, rfl, Or.inl ⟨by decide, by decide⟩, _, rfl, _, _, rfl, rfl, Or.inr ⟨by omega, by omega⟩, ?_⟩
            refine ⟨_, _, rfl, rfl, _, rfl, _, _, rfl, rfl, Or.inl ⟨by decide, by decide⟩, _, _, rfl, rfl, _, _, rfl, rfl, ?_⟩
            refine ⟨_, rfl, Or.inl ⟨_, rfl, _, _, rfl, rfl, (by show (2147483629 : Int) ≠ 0; decide), ?_⟩⟩
            have hz := fmod_bounds (x := x.fmod 2147483587 * 48271 + 40014 * a * a + 59 * a + 17) (m := 2147483629) (by decide)
            refine ⟨_, rfl, _, rfl, _, _, rfl, rfl, _, _, rfl, rfl, Or.inl ⟨by omega, by omega⟩, Or.inl ⟨_, rfl, _, _, rfl, rfl, (by show (2147483549 : Int) ≠ 0; decide), ?_⟩⟩
            refine ⟨_, rfl, _, rfl, _, _, rfl, rfl, Or.inl ?_, Or.inl ⟨_, rfl, _, _, rfl, rfl, (by show (2147483579 : Int) ≠ 0; decide), _, _, rfl, rfl, ⟨by decide, by decide⟩, Or.inl ⟨_, rfl, _, rfl, _, _, rfl, rfl, (by omega), ?_⟩⟩⟩
            · have hy := fmod_bounds (x := (x.fmod 2147483587 * 48271 + 40014 * a * a + 59 * a + 17).fmod 2147483629 * ((x.fmod 2147483587 * 48271 + 40014 * a * a + 59 * a + 17).fmod 2147483629 + 69621)) (m := 2147483549) (by decide)
              exact ⟨by omega, by omega⟩
            exact k _ _ (fmod_bounds m0).1 (fmod_bounds m0).2 ⟨a + 1, l, cs, ⟨k1, k2, h3, by omega, h5⟩, by omega⟩ kk
      · skip
        refine ⟨_, rfl, _, rfl, p, _, rfl, dget_cells k1, V.ref c, _, rfl, Or.inl ⟨_, SqL.of k2, rfl⟩, _, _, rfl, rfl, _, rfl, ite2 (fun c3 => ?_) (fun c3 => ?_)⟩
        · refine ⟨_, rfl, _, _, rfl, rfl, ⟨by decide, by decide, by decide⟩, _, _, rfl, rfl, _, rfl, ite2 (fun c4 => ?_) (fun c4 => ?_)⟩
          · have c4 : (10 : Int) ^ 18 ≤ 41 * a + 23 := by simpa using c4
            refine ⟨_, rfl, _, _, rfl, rfl, ⟨by decide, by decide, by decide⟩, _, _, rfl, rfl, _, rfl, _, _, rfl, rfl, ⟨m0, log_lt m0 m1⟩, _, rfl, p, _, rfl, dput_left k1, ?_⟩
            refine ⟨_, rfl, _, _, rfl, rfl, ⟨by decide, by decide, by decide⟩, _, _, rfl, rfl, Or.inl ⟨_, rfl, _, rfl, _, _, rfl, rfl, (by omega), ?_⟩⟩
            refine k _ _ (fmod_bounds m0).1 (fmod_bounds m0).2 ⟨a + 1, _, cs, ⟨upd_same, by rw [upd_ne ncp]; exact k2, h3, by omega, Int.ediv_nonneg ?_ (by omega)⟩, by omega⟩ (kk.trans kp_upd)
            show 0 ≤ 41 * a + 23 - 10 ^ 18
            omega
          · refine ⟨_, rfl, Or.inl ⟨_, rfl, _, _, rfl, rfl, (by show (2147483587 : Int) ≠ 0; decide), _, _, rfl, rfl, Or.inr ⟨by decide, by decide⟩, ?_⟩⟩
            refine ⟨_, rfl, _, _, rfl, rfl, Or.inl ⟨by decide, by decide⟩, _, rfl, _, _, rfl, rfl, Or.inr ⟨by omega, by omega⟩, ?_⟩
            refine ⟨_, _, rfl, rfl, _, rfl, _, _, rfl, rfl, Or.inl ⟨by decide, by decide⟩, _, _, rfl, rfl, _, _, rfl, rfl, ?_⟩
            refine ⟨_, rfl, Or.inl ⟨_, rfl, _, _, rfl, rfl, (by show (2147483629 : Int) ≠ 0; decide), ?_⟩⟩
            have hz := fmod_bounds (x := (41 * a + 23).fmod 2147483587 * 48271 + 40014 * a * a + 59 * a + 17) (m := 2147483629) (by decide)
            refine ⟨_, rfl, _, rfl, _, _, rfl, rfl, _, _, rfl, rfl, Or.inl ⟨by omega, by omega⟩, Or.inl ⟨_, rfl, _, _, rfl, rfl, (by show (2147483549 : Int) ≠ 0; decide), ?_⟩⟩
            refine ⟨_, rfl, _, rfl, _, _, rfl, rfl, Or.inl ?_, Or.inl ⟨_, rfl, _, _, rfl, rfl, (by show (2147483579 : Int) ≠ 0; decide), _, _, rfl, rfl, ⟨by decide, by decide⟩, Or.inl ⟨_, rfl, _, rfl, _, _, rfl, rfl, (by omega), ?_⟩⟩⟩
            · have hy := fmod_bounds (x := ((41 * a + 23).fmod 2147483587 * 48271 + 40014 * a * a + 59 * a + 17).fmod 2147483629 * (((41 * a + 23).fmod 2147483587 * 48271 + 40014 * a * a + 59 * a + 17).fmod 2147483629 + 69621)) (m := 2147483549) (by decide)
              exact ⟨by omega, by omega⟩
            exact k _ _ (fmod_bounds m0).1 (fmod_bounds m0).2 ⟨a + 1, l, cs, ⟨k1, k2, h3, by omega, h5⟩, by omega⟩ kk
        · refine ⟨_, rfl, Or.inl ⟨_, rfl, _, _, rfl, rfl, (by show (2147483587 : Int) ≠ 0; decide), _, _, rfl, rfl, Or.inr ⟨by decide, by decide⟩, ?_⟩⟩
          refine ⟨_, rfl, _, _, rfl, rfl, Or.inl ⟨by decide, by decide⟩, _, rfl, _, _, rfl, rfl, Or.inr ⟨by omega, by omega⟩, ?_⟩
          refine ⟨_, _, rfl, rfl, _, rfl, _, _, rfl, rfl, Or.inl ⟨by decide, by decide⟩, _, _, rfl, rfl, _, _, rfl, rfl, ?_⟩
          refine ⟨_, rfl, Or.inl ⟨_, rfl, _, _, rfl, rfl, (by show (2147483629 : Int) ≠ 0; decide), ?_⟩⟩
          have hz := fmod_bounds (x := (41 * a + 23).fmod 2147483587 * 48271 + 40014 * a * a + 59 * a + 17) (m := 2147483629) (by decide)
          refine ⟨_, rfl, _, rfl, _, _, rfl, rfl, _, _, rfl, rfl, Or.inl ⟨by omega, by omega⟩, Or.inl ⟨_, rfl, _, _, rfl, rfl, (by show (2147483549 : Int) ≠ 0; decide), ?_⟩⟩
          refine ⟨_, rfl, _, rfl, _, _, rfl, rfl, Or.inl ?_, Or.inl ⟨_, rfl, _, _, rfl, rfl, (by show (2147483579 : Int) ≠ 0; decide), _, _, rfl, rfl, ⟨by decide, by decide⟩, Or.inl ⟨_, rfl, _, rfl, _, _, rfl, rfl, (by omega), ?_⟩⟩⟩
          · have hy := fmod_bounds (x := ((41 * a + 23).fmod 2147483587 * 48271 + 40014 * a * a + 59 * a + 17).fmod 2147483629 * (((41 * a + 23).fmod 2147483587 * 48271 + 40014 * a * a + 59 * a + 17).fmod 2147483629 + 69621)) (m := 2147483549) (by decide)
            exact ⟨by omega, by omega⟩
          exact k _ _ (fmod_bounds m0).1 (fmod_bounds m0).2 ⟨a + 1, l, cs, ⟨k1, k2, h3, by omega, h5⟩, by omega⟩ kk
/-- the draw, as its callers have it -/
structure TxtD (K : PySem.W.Frag) (mg : Str → Option Value) (fD : Addr) : Prop extends TxtA K mg where
  m_law_draw : mg "_law_draw" = some (.ref fD)
  k_law_draw : PySem.W.keepIn K (.ref fD) = true
abbrev s__law_pick : Stmt := top 20
abbrev N__law_pick : List Str := ["_law_pen_here", "_law_items"]
abbrev P__law_pick : List Str := ["_law_pen_here", "_law_items"]
theorem sc__law_pick : FnScope N__law_pick P__law_pick (defScope s__law_pick) := ⟨rfl, rfl, rfl, by decide +kernel, rfl, by decide +kernel, by decide +kernel⟩

theorem ok_pickL {f fD : Addr} {fd fdD : FuncData} (F : Fun K "_law_pick" "_law_pick" s__law_pick f fd) (T : TxtD K mg fD) (FD : Fun K "_law_draw" "_law_draw" s__law_draw fD fdD) (b_law_draw : Binds K fdD P__law_draw []) : FnOk P w K mg base CX0 2 f fd P__law_pick (spPickL K) := by
  have G_law_draw : FnOk P w K mg base CX0 1 fD fdD P__law_draw spDraw := ok_draw FD T.toTxtA
  refine F.ok sc__law_pick (fun vs H Q E h => ?_) (fun cdv A outer s H vs Q E hr h => ?_)
  · obtain ⟨p, c, a, xs, n, rfl, _⟩ := h
    rfl
  · obtain ⟨p, c, a, xs, n, rfl, hp, hn, hS, h0, h1, k⟩ := h
    refine ⟨_, (pss_one (ps_ret (pe_ix ix_list (pv 1) (pe_call G_law_draw (hr.mono (by decide)) (by rfl) T.m_law_draw T.k_law_draw b_law_draw .nil pass0 (pa_cons (pv 0) (pa_cons (pe_callB call_len (by rfl) T.len PySem.boot_len (pa_cons (pv 1) pa_nil)) pa_nil))) (fun _ _ => rfl)))), ?_⟩
    refine ⟨_, rfl, _, rfl, _, rfl, _, _, rfl, Or.inl ⟨_, hS, rfl⟩, p, c, _, n, rfl, hp, hn, by omega, by omega, fun d H' d0 d1 hp' kk => ?_⟩
    obtain ⟨kvs, hd⟩ := hp.dk
    have hj : d.toNat < xs.length := by omega
    exact ⟨a, xs, d, _, rfl, rfl, kp_seq kk hd hS, at_of (Int.toNat_of_nonneg d0).symm (List.getElem?_eq_getElem hj), k _ _ _ (List.getElem?_eq_getElem hj) hp' kk⟩
theorem ok_pickS {f fD : Addr} {fd fdD : FuncData} (F : Fun K "_law_pick" "_law_pick" s__law_pick f fd) (T : TxtD K mg fD) (FD : Fun K "_law_draw" "_law_draw" s__law_draw fD fdD) (b_law_draw : Binds K fdD P__law_draw []) : FnOk P w K mg base CX0 2 f fd P__law_pick spPickS := by
  have G_law_draw : FnOk P w K mg base CX0 1 fD fdD P__law_draw spDraw := ok_draw FD T.toTxtA
  refine F.ok sc__law_pick (fun vs H Q E h => ?_) (fun cdv A outer s H vs Q E hr h => ?_)
  · obtain ⟨p, c, z, n, rfl, _⟩ := h
    rfl
  · obtain ⟨p, c, z, n, rfl, hp, hn, h0, h1, k⟩ := h
    refine ⟨_, (pss_one (ps_ret (pe_ix ix_str (pv 1) (pe_call G_law_draw (hr.mono (by decide)) (by rfl) T.m_law_draw T.k_law_draw b_law_draw .nil pass0 (pa_cons (pv 0) (pa_cons (pe_callB call_len (by rfl) T.len PySem.boot_len (pa_cons (pv 1) pa_nil)) pa_nil))) (fun _ _ => rfl)))), ?_⟩
    have hz : z.length ≤ sizeLine := Nat.le_of_lt (small1000 h1)
    refine ⟨_, rfl, _, rfl, _, rfl, _, _, rfl, ⟨hz, rfl⟩, p, c, _, n, rfl, hp, hn, by omega, by omega, fun d H' d0 d1 hp' kk => ?_⟩
    have hj : d.toNat < (TL.tl z).length := by rw [← TL.len_tl]; omega
    exact ⟨z, d, _, rfl, rfl, hz, at_of' (Int.toNat_of_nonneg d0).symm (List.getElem?_eq_getElem hj), k _ _ _ (List.getElem?_eq_getElem hj) hp' kk⟩
end
end Vf
set_option Elab.async false
set_option linter.all false
set_option maxRecDepth 100000
set_option maxHeartbeats 4000000
/-! nested data -/
namespace Vf
open PySem L2 PyProof.Rows
def Dat : HO → Prop
  | .lst _ => True
  | .tup _ => True
  | .frz _ _ => True
  | _ => False
/-- lists and tuples stand as they stood -/
def Kl (H H' : Hp) : Prop := ∀ b o, H b = some o → Dat o → H' b = some o
theorem Kl.refl (H : Hp) : Kl H H := fun _ _ e _ => e
theorem Kl.trans {H H1 H2 : Hp} (a : Kl H H1) (b : Kl H1 H2) : Kl H H2 := fun c o e d => b c o (a c o e d) d
theorem Kl.same {H H' : Hp} (s : Same H H') : Kl H H' := fun b o e _ => s b o e
theorem Kl.kp {H H' : Hp} {p : Addr} {kvs : List (Key × V)} (k : Kp p H H') (hp : H p = some (.dK kvs)) : Kl H H' := fun b o e d => k b o e fun z => by
  rw [z, hp] at e
  cases e
  exact d
theorem Kl.del {H H' : Hp} (k : Kl H H') (a : Addr) : Kl (L2.del H a) (L2.del H' a) := fun b o e d => by
  by_cases hb : b = a
  · rw [hb, del_same] at e; cases e
  · rw [del_ne hb] at e ⊢
    exact k b o e d
theorem Kl.undel (H : Hp) (a : Addr) : Kl (L2.del H a) H := fun b o e d => by
  by_cases hb : b = a
  · rw [hb, del_same] at e; cases e
  · rw [del_ne hb] at e
    exact e
theorem del_upd (H : Hp) (a : Addr) (o : HO) : L2.del (L2.upd H a o) a = L2.del H a := by
  funext b
  by_cases hb : b = a
  · rw [hb, del_same, del_same]
  · rw [del_ne hb, del_ne hb, upd_ne hb]
theorem Kl.rd {H H' : Hp} {a : Addr} {u : HO} (k : Kl H H') (d : Dat u) (h : Rd H a u) : Rd H' a u := by
  rcases h with h | ⟨o, h⟩
  · exact .inl (k _ _ h d)
  · exact .inr ⟨o, k _ _ h trivial⟩
theorem Kl.seq {K : PySem.W.Frag} {H H' : Hp} {a : Addr} {xs : List V} (k : Kl H H') (h : SqL K H a xs) : SqL K H' a xs := by
  rcases h with h | h
  · exact .inl (k.rd trivial h)
  · exact .inr h
theorem Kl.seqT {K : PySem.W.Frag} {H H' : Hp} {a : Addr} {xs : List V} (k : Kl H H') (h : SqT K H a xs) : SqT K H' a xs := by
  rcases h with h | h
  · exact .inl (k.rd trivial h)
  · exact .inr h
end Vf
namespace L2
open PySem PyProof.Rows Vf
mutual
theorem Dp.kl {K : PySem.W.Frag} {H H' : Hp} (k : Kl H H') : ∀ (d : PyData) (v : V), Dp K H v d → Dp K H' v d
  | .none, _, h => by cases h; exact .non
  | .bool b, _, h => by cases h; exact .bl b
  | .int i, _, h => by cases h; exact .int i
  | .str x, _, h => by cases h; exact .str x
  | .list ds, _, h => by
    cases h with
    | lst a b => exact .lst (k.seq a) (DpAll.kl k ds _ b)
  | .tuple ds, _, h => by
    cases h with
    | tup a b => exact .tup (k.seqT a) (DpAll.kl k ds _ b)
  | .dict kvs, _, h => by cases h
theorem DpAll.kl {K : PySem.W.Frag} {H H' : Hp} (k : Kl H H') : ∀ (ds : List PyData) (vs : List V), DpAll K H vs ds → DpAll K H' vs ds
  | [], _, h => by cases h; exact .nil
  | d :: ds, _, h => by
    cases h with
    | cons a b => exact .cons (Dp.kl k d _ a) (DpAll.kl k ds _ b)
end
theorem Dp.mv {K : PySem.W.Frag} {H H' : Hp} {v : V} {d : PyData} (h : Dp K H v d) (k : Kl H H') : Dp K H' v d := Dp.kl k d v h
theorem DpAll.mv {K : PySem.W.Frag} {H H' : Hp} {vs : List V} {ds : List PyData} (h : DpAll K H vs ds) (k : Kl H H') : DpAll K H' vs ds := DpAll.kl k ds vs h
theorem DpAll.length {K : PySem.W.Frag} {H : Hp} : ∀ {vs : List V} {ds : List PyData}, DpAll K H vs ds → vs.length = ds.length
  | _, _, .nil => rfl
  | _, _, .cons _ t => congrArg Nat.succ (DpAll.length t)
theorem DpAll.get {K : PySem.W.Frag} {H : Hp} : ∀ {vs : List V} {ds : List PyData} {i : Nat} {d : PyData}, DpAll K H vs ds → ds[i]? = some d → ∃ v, vs[i]? = some v ∧ Dp K H v d
  | _, _, _, _, .nil, e => by simp at e
  | _, _, 0, _, .cons h t, e => by simp at e; subst e; exact ⟨_, rfl, h⟩
  | _, _, i + 1, d, .cons h t, e => by
    obtain ⟨v, h1, h2⟩ := DpAll.get (i := i) (d := d) t (by simpa using e)
    exact ⟨v, by simpa using h1, h2⟩
theorem DpAll.append {K : PySem.W.Frag} {H : Hp} : ∀ {vs ws : List V} {ds es : List PyData}, DpAll K H vs ds → DpAll K H ws es → DpAll K H (vs ++ ws) (ds ++ es)
  | _, _, _, _, .nil, h => h
  | _, _, _, _, .cons a t, h => .cons a (DpAll.append t h)
theorem DpAll.snoc {K : PySem.W.Frag} {H : Hp} {vs : List V} {v : V} {ds : List PyData} {d : PyData} (h : DpAll K H vs ds) (g : Dp K H v d) : DpAll K H (vs ++ [v]) (ds ++ [d]) := h.append (.cons g .nil)
theorem DpAll.take {K : PySem.W.Frag} {H : Hp} : ∀ {vs : List V} {ds : List PyData} (n : Nat), DpAll K H vs ds → DpAll K H (vs.take n) (ds.take n)
  | _, _, 0, _ => .nil
  | _, _, n + 1, .nil => .nil
  | _, _, n + 1, .cons a t => .cons a (DpAll.take n t)
theorem DpAll.drop {K : PySem.W.Frag} {H : Hp} : ∀ {vs : List V} {ds : List PyData} (n : Nat), DpAll K H vs ds → DpAll K H (vs.drop n) (ds.drop n)
  | _, _, 0, h => h
  | _, _, n + 1, .nil => .nil
  | _, _, n + 1, .cons a t => DpAll.drop n t
theorem Dp.listE {K : PySem.W.Frag} {H : Hp} {v : V} {ds : List PyData} (h : Dp K H v (.list ds)) : ∃ a xs, v = .ref a ∧ SqL K H a xs ∧ DpAll K H xs ds := by
  cases h with
  | lst a b => exact ⟨_, _, rfl, a, b⟩
theorem Dp.tupE {K : PySem.W.Frag} {H : Hp} {v : V} {ds : List PyData} (h : Dp K H v (.tuple ds)) : ∃ a xs, v = .ref a ∧ SqT K H a xs ∧ DpAll K H xs ds := by
  cases h with
  | tup a b => exact ⟨_, _, rfl, a, b⟩
theorem Dp.intE {K : PySem.W.Frag} {H : Hp} {v : V} {i : Int} (h : Dp K H v (.int i)) : v = .int i := by
  cases h; rfl
theorem Dp.strE {K : PySem.W.Frag} {H : Hp} {v : V} {i : Str} (h : Dp K H v (.str i)) : v = .str i := by
  cases h; rfl
theorem dpAll_ints (K : PySem.W.Frag) (H : Hp) : ∀ cs : List Int, DpAll K H (cs.map V.int) (cs.map PyData.int)
  | [] => .nil
  | c :: r => .cons (.int c) (dpAll_ints K H r)
theorem dpAll_intsE {K : PySem.W.Frag} {H : Hp} : ∀ {cs : List Int} {vs : List V}, DpAll K H vs (cs.map PyData.int) → vs = cs.map V.int
  | [], _, h => by cases h; rfl
  | c :: r, _, h => by
    cases h with
    | cons a b => rw [a.intE, dpAll_intsE b]; rfl
theorem dpAll_strs (K : PySem.W.Frag) (H : Hp) : ∀ cs : List Str, DpAll K H (cs.map V.str) (cs.map PyData.str)
  | [] => .nil
  | c :: r => .cons (.str c) (dpAll_strs K H r)
theorem dpAll_strsE {K : PySem.W.Frag} {H : Hp} : ∀ {cs : List Str} {vs : List V}, DpAll K H vs (cs.map PyData.str) → vs = cs.map V.str
  | [], _, h => by cases h; rfl
  | c :: r, _, h => by
    cases h with
    | cons a b => rw [a.strE, dpAll_strsE b]; rfl
end L2
namespace Vf
open PySem L2 PyProof.Rows
/-! a code's data -/
abbrev Row := List (Int × Int)
def tupD (gb : Int × Int) : PyData := .tuple [.int gb.1, .int gb.2]
def rowD (r : Row) : PyData := .list (r.map tupD)
def rowT (r : Row) : PyData := .tuple (r.map tupD)
def rowsD (rs : List Row) : PyData := .list (rs.map rowD)
def rowsT (rs : List Row) : PyData := .tuple (rs.map rowT)
def intsD (es : List Int) : PyData := .list (es.map PyData.int)
def intsT (es : List Int) : PyData := .tuple (es.map PyData.int)
def codeD (z : Str) (rs : List Row) (es : List Int) : PyData := .tuple [.str z, rowsD rs, intsD es]
/-- rows and ends of a code with so many values -/
structure Good (m : Nat) (rs : List Row) (es : List Int) : Prop where
  len : es.length = rs.length
  pos : 0 < rs.length
  row : ∀ r ∈ rs, r.length = m ∧ ∀ gb ∈ r, 0 ≤ gb.1 ∧ gb.1 < rs.length ∧ 0 ≤ gb.2 ∧ gb.2 < 100
  ends : ∀ e ∈ es, 0 ≤ e ∧ e < 100
theorem del_some {H : Hp} {a b : Addr} {o : HO} (e : L2.del H a b = some o) : b ≠ a ∧ H b = some o := by
  by_cases hb : b = a
  · rw [hb, del_same] at e; cases e
  · rw [del_ne hb] at e
    exact ⟨hb, e⟩
/-- a row of a code of c states -/
def RowOk (m : Nat) (c : Int) (r : Row) : Prop := r.length = m ∧ ∀ gb ∈ r, 0 ≤ gb.1 ∧ gb.1 < c ∧ 0 ≤ gb.2 ∧ gb.2 < 100
/-- a comprehension without a test -/
theorem lcYes {σ : L2.St} {H : Hp} {A B : Hp → Prop} (h : A H) : tYes σ H (fun b H' => if b = true then A H' else B H') := by
  show (if true = true then A H else B H)
  rw [if_pos rfl]
  exact h
end Vf
namespace L2
theorem Same.put {H H' : Hp} {r : PySem.Addr} {o : HO} (s : Same H H') (h : H r = none) : Same H (upd H' r o) := fun b u e => by
  rw [upd_ne (ne_of_none e h)]
  exact s b u e
end L2
set_option Elab.async false
set_option linter.all false
set_option maxRecDepth 100000
set_option maxHeartbeats 4000000
/-! for i, c in enumerate(text); walks of texts -/
namespace Vf
open PySem L2 PyProof.Rows
/-- the text x, each sign in a new pair with its place -/
def Itse (x : Str) : It :=
  ⟨fun i _ => i < x.cps.size, fun i H v H' => ∃ T c, v = .ref T ∧ H T = none ∧ H' = L2.upd H T (.tup [.int (i : Nat), .str (sg c)]) ∧ x.cps[i]? = some c, fun i _ => x.cps.size ≤ i⟩
theorem turn_enumS {P : Program} {w : World} {K : PySem.W.Frag} {elts : List Expr} {kk : Nat} {tpos : Pos} (x : Str) (t : Tok) (e it : Addr) :
    Turn P w K (.Tuple elts kk tpos) (Itse x) [e, it] e (fun i h => (∃ old, IsEnum h e it ((i : Nat) : Int) old) ∧ h.IsStrIter it (strIterType x) x t i ∧ e ≠ it ∧ i ≤ x.cps.size) where
  mem := by simp
  obj := fun i h st b hb => by
    obtain ⟨⟨old, he⟩, ⟨o, ho, hc, hd⟩, _⟩ := st
    have e' : b = e ∨ b = it := by simpa using hb
    rcases e' with z | z
    · rw [z]; exact ⟨_, he, fun v q => nomatch q⟩
    · rw [z]; exact ⟨o, ho, fun v q => by rw [hd] at q; cases q⟩
  keep := fun i h h' st k => let ⟨⟨old, he⟩, ⟨o, ho, r⟩, hne, hle⟩ := st; ⟨⟨old, k e (by simp) _ he⟩, ⟨o, k it (by simp) o ho, r⟩, hne, hle⟩
  item := by
    intro X hP hw hK hc i pins s σ H E I hf st hg
    subst hP hw hK
    obtain ⟨⟨old, he⟩, hit, hne, hle⟩ := st
    have hg : i < x.cps.size := hg
    have hel : e < s.heap.objs.size := Heap.lt_size he
    have hil : it < s.heap.objs.size := by obtain ⟨_, q, _⟩ := hit; exact Heap.lt_size q
    have D : Draws X.prog X.w X.A.in1 it [it] x.cps.size (fun i v => ∃ c u, x.cps[i]? = some c ∧ v = .str ⟨#[c]⟩ u) (fun i h => h.IsStrIter it (strIterType x) x t i) := Draws.text (A := X.A.in1) (show X.A.in1.handled = none from I.ok.hd hc) it x t
    refine wpAny_pyNext_enum_itemC D he hit hg hne (by simpa using hne) fun y h' tk hy ho hit' hT hsz hk => ?_
    obtain ⟨c, u, hcx, rfl⟩ := hy
    refine ⟨_, rfl, wpAny_letOwnedTupleGo_enum (s := { s with heap := h', toks := tk + 1 }) ho fun h'' he' sb => ?_⟩
    have hT2 : h''.get? s.heap.objs.size = some { cls := .type "tuple", data := .seq #[.int i tk, .str ⟨#[c]⟩ u] } := (sb.2 _ (Nat.ne_of_gt hel)).trans hT
    have new : ObjOk X.prog X.w (L2.upd H s.heap.objs.size (.tup [.int (i : Nat), .str (sg c)])) h'' s.heap.objs.size (.tup [.int (i : Nat), .str (sg c)]) :=
      ⟨by show 2 ≤ sizeLine; decide, [.int i tk, .str ⟨#[c]⟩ u], .cons ⟨_, rfl⟩ (.cons ⟨_, rfl⟩ .nil), ⟨_, hT2, rfl, _, rfl⟩⟩
    have I1 : Inv X pins σ (L2.upd H s.heap.objs.size (.tup [.int (i : Nat), .str (sg c)])) { s with heap := h'', toks := tk + 1 } :=
      I.turnedNew (ch := [e, it]) (fun b ob hb q => (sb.2 b (fun z => hb (by simp [z]))).trans (hk b ob (fun z => hb (by simp [z])) (fun z => hb (by simp [z])) q)) hf (Nat.le_refl _) new
    obtain ⟨oi, hoi, r⟩ := hit'
    refine ⟨.ref s.heap.objs.size, _, I1, rfl, ⟨_, c, rfl, I.hok.fresh (Nat.le_refl _), rfl, hcx⟩, ⟨⟨.str ⟨#[c]⟩ u, ?_⟩, ⟨oi, (sb.2 it (Ne.symm hne)).trans hoi, r⟩, hne, hg⟩, fun b hb => ?_⟩
    · have e1 : ((i + 1 : Nat) : Int) = (i : Int) + 1 := by omega
      rw [e1]; exact he'
    · have hb' : b < s.heap.objs.size := by
        have e' : b = e ∨ b = it := by simpa using hb
        rcases e' with z | z
        · rw [z]; exact hel
        · rw [z]; exact hil
      rw [upd_ne (Nat.ne_of_lt hb')]
      exact (hf b hb).1
  done := by
    intro X hP hw hK hc i pins s σ H E I hf st hg
    subst hP hw hK
    obtain ⟨⟨old, he⟩, hit, hne, hle⟩ := st
    have hg : x.cps.size ≤ i := hg
    have ei : i = x.cps.size := Nat.le_antisymm hle hg
    subst ei
    obtain ⟨f0, f1, f2, f3, f4, f5⟩ := hf it (by simp)
    have D : Draws X.prog X.w X.A.in1 it [it] x.cps.size (fun i v => ∃ c u, x.cps[i]? = some c ∧ v = .str ⟨#[c]⟩ u) (fun i h => h.IsStrIter it (strIterType x) x t i) := Draws.text (A := X.A.in1) (show X.A.in1.handled = none from I.ok.hd hc) it x t
    exact wpAny_pyNext_enum_endD D he hit fun h' eb => ⟨rfl, I.turned (t' := s.toks) (fun b o hb q => eb b o hb q) f0 f1 f3 f4 f5⟩
  self := fun A i s Q E st h => let ⟨⟨_, he⟩, _⟩ := st; wpAny_pyIter_enum he h
def iEnumS (ta : TA) : TI := fun σ H R => ta σ H fun vs H1 => ∃ z, vs = [.str z] ∧ R (Itse z) H1
theorem pi_enumS {X : Cx} {e : Expr} {ta : TA} {p pos tpos : Pos} {elts : List Expr} {kk : Nat} (hg : Gl X "enumerate") (hm : X.mg "enumerate" = none) (ha : PA X [e] ta) (hs : starEach [e] X.env = [(false, eval e X.env)] := by rfl) :
    PI X (.Tuple elts kk tpos) (.Call (.Name "enumerate" p) [e] [] pos) (iEnumS ta) := by
  refine ⟨fun pins s σ H R I h => ?_⟩
  refine Call_ (ld_blt I hg hm boot_enumerate (PyProof.Rows.callWith_type1 (thn (ha.run pos pins s σ H _ I h) fun us s1 ⟨vs, H1, I1, r1, q1⟩ => ?_) hs rfl))
  obtain ⟨x, ex, q⟩ := q1
  subst ex
  cases r1 with
  | cons r rr =>
    cases rr
    obtain ⟨t, rfl⟩ := r
    refine call_enumerate_str fun h' he hit hsz hk => wpAny_pyIter_enum he ?_
    have I2 : Inv X pins σ H1 { s1 with heap := h' } := I1.kept (t' := s1.toks) hk
    refine ⟨s1.heap.objs.size + 1, [s1.heap.objs.size + 1, s1.heap.objs.size], _, _, H1, rfl, I2, turn_enumS x t (s1.heap.objs.size + 1) s1.heap.objs.size, ⟨⟨.none, he⟩, hit, Nat.succ_ne_self _, Nat.zero_le _⟩, fun b hb => ?_, q⟩
    have e' : b = s1.heap.objs.size + 1 ∨ b = s1.heap.objs.size := by simpa using hb
    have hle : s1.heap.objs.size ≤ b := by
      rcases e' with z | z
      · rw [z]; exact Nat.le_add_right _ _
      · rw [z]; exact Nat.le_refl _
    exact I1.fpOk hle (I1.hok.fresh hle)
theorem walk_strS {z : Str} : Walk (Its z) z.length (fun _ => True) (fun i H v H' => H' = H ∧ ∃ c, (TL.tl z)[i]? = some c ∧ v = .str (sg c)) :=
  ⟨fun _ _ hi _ => hi, fun _ _ => Nat.le_refl _, fun i _ _ _ _ _ y => ⟨y.1, by obtain ⟨c, h, e⟩ := y.2; exact ⟨c, by simpa using h, e⟩⟩⟩
theorem walk_enumS {z : Str} : Walk (Itse z) z.length (fun _ => True) (fun i H v H' => ∃ T c, v = .ref T ∧ H T = none ∧ H' = L2.upd H T (.tup [.int (i : Nat), .str (sg c)]) ∧ (TL.tl z)[i]? = some c) :=
  ⟨fun _ _ hi _ => hi, fun _ _ => Nat.le_refl _, fun i _ _ _ _ _ y => by obtain ⟨T, c, h1, h2, h3, h4⟩ := y; exact ⟨T, c, h1, h2, h3, by simpa using h4⟩⟩
/-! rules with the written part named, for a comprehension's block -/
section
variable {X : Cx} {K : PySem.W.Frag} {tg : Expr}
def rTupOf (K : PySem.W.Frag) : List V → Hp → VK → Prop := fun xs H Q => ∃ p ys, xs = [.ref p] ∧ ((SqL K H p ys ∧ ∀ l, H l = none → Q (.ref l) (L2.upd H l (.tup ys))) ∨ (SqT K H p ys ∧ Q (.ref p) H))
def rLstOf (K : PySem.W.Frag) : List V → Hp → VK → Prop := fun xs H Q => ∃ p ys, xs = [.ref p] ∧ (SqL K H p ys ∨ SqT K H p ys) ∧ ∀ l, H l = none → Q (.ref l) (L2.upd H l (.lst ys))
def rLenOf (K : PySem.W.Frag) : List V → Hp → VK → Prop := fun xs H Q => ∃ x n, xs = [x] ∧ LenV K x H n ∧ Q (.int (n : Nat)) H
theorem call_tupleK (hK : X.K = K) : CallR X (.type "tuple") (rTupOf K) := by subst hK; exact call_tuple_of
theorem call_listK (hK : X.K = K) : CallR X (.type "list") (rLstOf K) := by subst hK; exact call_list_of
theorem call_lenK (hK : X.K = K) : CallR X (.builtin "len") (rLenOf K) := by subst hK; exact call_len
theorem pi_listK (hK : X.K = K) {l : Expr} {tl : TE} (hl : PE X l tl) : PI X tg l (iList K tl) := by subst hK; exact pi_list hl
theorem pi_tupK (hK : X.K = K) {l : Expr} {tl : TE} (hl : PE X l tl) : PI X tg l (iTup K tl) := by subst hK; exact pi_tup hl
theorem ix_listK (hK : X.K = K) : IxR X (rIxL K) := by subst hK; exact ix_list
theorem ix_tupK (hK : X.K = K) : IxR X (rIxT K) := by subst hK; exact ix_tup
end
theorem pi_or {X : Cx} {tg e : Expr} {w1 w2 : TI} (h1 : PI X tg e w1) (h2 : PI X tg e w2) : PI X tg e (fun σ H R => w1 σ H R ∨ w2 σ H R) :=
  ⟨fun pins s σ H R I h => h.elim (fun h => h1.run pins s σ H R I h) fun h => h2.run pins s σ H R I h⟩
end Vf
set_option Elab.async false
set_option linter.all false
set_option maxRecDepth 100000
set_option maxHeartbeats 4000000
/-! for i, x in enumerate(tuple) -/
namespace Vf
open PySem L2 PyProof.Rows
theorem meets_enumerate_newT (l : Addr) (o : Obj) (items : Array Value) (ht : o.cls = .type "tuple") (hd : ∃ n, o.data = .seq items n) :
    Meets (Builtin.«enumerate.__new__» ⟨[.type "enumerate", .ref l], []⟩) (fun _ R s => s.heap.get? l = some o ∧
      R (.ok (.ret (.ref (s.heap.push { cls := .type "tuple_iterator", data := .fields #[.ref l, .int 0 0] }).objs.size)))
        { s with heap := (s.heap.push { cls := .type "tuple_iterator", data := .fields #[.ref l, .int 0 0] }).push { cls := .type "enumerate", data := .fields #[.none, .bool false, .ref s.heap.objs.size, rawInt 0, .none, .none] } }) :=
  .of_wp fun prog w A R s h => by
    obtain ⟨hl, h⟩ := h
    have hT : s.heap.IsTuple l items := ⟨o, hl, ht, hd⟩
    obtain ⟨hp, g, d, tk, os⟩ := s
    have hsub := sub_enumerate
    wp_walk
    refine wpAny_stack_any fun st => wpAny_pure ?_
    split
    · rename_i c _ _ _ _ _
      cases (c == Value.type "enumerate")
      · wp_walk using wpAny_pyIter_tuple hT
        exact ⟨_, rfl, h⟩
      · wp_walk using wpAny_pyIter_tuple hT
        exact ⟨_, rfl, h⟩
    · wp_walk using wpAny_pyIter_tuple hT
      exact ⟨_, rfl, h⟩
section
variable {prog : Program} {w : World} {A : Around} {E : Value → Shared → Prop} {s : Shared}
theorem call_enumerate_tuple {l : Addr} {items : Array Value} {Q : Value → Shared → Prop} (hL : s.heap.IsTuple l items)
    (h : ∀ h', IsEnum h' (s.heap.objs.size + 1) s.heap.objs.size 0 .none → h'.IsTupleIter s.heap.objs.size l 0 → h'.objs.size = s.heap.objs.size + 2 →
      (∀ b o, s.heap.get? b = some o → h'.get? b = some o) → Q (.ref (s.heap.objs.size + 1)) { s with heap := h' }) :
    wpAny (model prog w) A (call (.type "enumerate") [.ref l]) Q E s := by
  obtain ⟨o, hl, hc, hd⟩ := hL
  refine callType_new F.called_enumerate (by decide) (F.typeCall_enumerate_1 _) (F.newCall_enumerate_1 _) (fun obj => F.args_object_init_2 obj _) F.entry_enumerate_new
    (meets_enumerate_newT l o items hc hd) ⟨hl, ?_⟩
  have hz : (s.heap.push { cls := .type "tuple_iterator", data := .fields #[.ref l, .int 0 0] }).objs.size = s.heap.objs.size + 1 := Heap.size_push ..
  show _ ∧ _
  rw [hz]
  have he : IsEnum ((s.heap.push { cls := .type "tuple_iterator", data := .fields #[.ref l, .int 0 0] }).push
      { cls := .type "enumerate", data := .fields #[.none, .bool false, .ref s.heap.objs.size, rawInt 0, .none, .none] }) (s.heap.objs.size + 1) s.heap.objs.size 0 .none := by
    have := Heap.get?_push_size (s.heap.push { cls := .type "tuple_iterator", data := .fields #[.ref l, .int 0 0] })
      (o := { cls := .type "enumerate", data := .fields #[.none, .bool false, .ref s.heap.objs.size, rawInt 0, .none, .none] }) rfl
    rw [hz] at this; exact this
  refine ⟨⟨_, he, rfl⟩, h _ he ⟨_, Heap.get?_push_of_some _ (Heap.get?_push_size _ rfl), rfl, rfl⟩ (by rw [Heap.size_push, hz]) fun b o x => Heap.get?_push_of_some _ (Heap.get?_push_of_some _ x)⟩
end
/-- the tuple at a, each item in a new pair -/
def Itet (K : PySem.W.Frag) (a : Addr) : It :=
  ⟨fun i H => ∃ (xs : List V) (x : V), SqT K H a xs ∧ xs[i]? = some x, fun i H v H' => ∃ T x, v = .ref T ∧ H T = none ∧ H' = L2.upd H T (.tup [.int (i : Nat), x]) ∧ ∀ xs, SqT K H a xs → xs[i]? = some x, fun i H => ∃ xs : List V, SqT K H a xs ∧ xs.length ≤ i⟩
theorem drawsAtEnd {prog : Program} {w : World} {A : Around} (hh : A.handled = none) (it t : Addr) (items : Array Value) (i : Nat) (hi : items[i]? = none) :
    Draws prog w A it [it, t] i (fun _ _ => False) (fun j h => j = i ∧ h.IsTupleIter it t j ∧ h.IsTuple t items) where
  live := fun _ _ st => let ⟨o, ho, _⟩ := st.2.1; ⟨o, ho⟩
  frame := fun _ _ _ st hk => ⟨st.1, st.2.1.at fun o e => hk it (by simp) o e, st.2.2.at fun o e => hk t (by simp) o e⟩
  item := fun j s Q E hj st hQ => absurd st.1 (Nat.ne_of_lt hj)
  done := fun s Q E st hE => wpAny_nextOf_tuple_end hh st.2.1 st.2.2 hi hE
theorem turn_enumT {P : Program} {w : World} {K : PySem.W.Frag} {elts : List Expr} {kk : Nat} {tpos : Pos} (a e it : Addr) :
    Turn P w K (.Tuple elts kk tpos) (Itet K a) [e, it] e (fun i h => (∃ old, IsEnum h e it ((i : Nat) : Int) old) ∧ h.IsTupleIter it a i ∧ e ≠ it) where
  mem := by simp
  obj := fun i h st b hb => by
    obtain ⟨⟨old, he⟩, ⟨o, ho, hc, hd⟩, _⟩ := st
    have e' : b = e ∨ b = it := by simpa using hb
    rcases e' with z | z
    · rw [z]; exact ⟨_, he, fun v q => nomatch q⟩
    · rw [z]; exact ⟨o, ho, fun v q => by rw [hd] at q; cases q⟩
  keep := fun i h h' st k => let ⟨⟨old, he⟩, hi, hne⟩ := st; ⟨⟨old, k e (by simp) _ he⟩, hi.at fun o q => k it (by simp) o q, hne⟩
  item := by
    intro X hP hw hK hc i pins s σ H E I hf st hg
    subst hP hw hK
    obtain ⟨⟨old, he⟩, hit, hne⟩ := st
    obtain ⟨xs, x, hq, hx⟩ := hg
    obtain ⟨its, rv, p, hz⟩ := I.tuple hq
    obtain ⟨u0, hu, ru⟩ := rv.get hx
    have hel : e < s.heap.objs.size := Heap.lt_size he
    have hil : it < s.heap.objs.size := by obtain ⟨_, q, _⟩ := hit; exact Heap.lt_size q
    have hae : a ≠ e := fun z => by
      obtain ⟨o, ho, hc, _⟩ := p
      rw [z] at ho
      have : o = _ := Option.some.inj (ho.symm.trans he)
      rw [this] at hc
      exact absurd (Value.type.inj hc) (by decide)
    have hai : a ≠ it := fun z => by
      obtain ⟨o, ho, hc, _⟩ := p
      obtain ⟨o2, ho2, hc2, _⟩ := hit
      rw [z] at ho
      rw [Option.some.inj (ho.symm.trans ho2), hc2] at hc
      exact absurd (Value.type.inj hc) (by decide)
    have D := Draws.tuple (prog := X.prog) (w := X.w) (A := X.A.in1) (show X.A.in1.handled = none from I.ok.hd hc) it a hai its.toArray
    have hlt : i < its.toArray.size := by
      obtain ⟨h, _⟩ := List.getElem?_eq_some_iff.mp hu
      simpa using h
    refine wpAny_pyNext_enum_itemC D he ⟨hit, p⟩ hlt hne (by simp [hne, Ne.symm hae]) fun y h' tk hy ho hit' hT hsz hk => ?_
    obtain rfl : u0 = y := by
      have : its.toArray[i]? = some u0 := by simpa using hu
      exact Option.some.inj (this.symm.trans hy)
    refine ⟨_, rfl, wpAny_letOwnedTupleGo_enum (s := { s with heap := h', toks := tk + 1 }) ho fun h'' he' sb => ?_⟩
    have hT2 : h''.get? s.heap.objs.size = some { cls := .type "tuple", data := .seq #[.int i tk, u0] } := (sb.2 _ (Nat.ne_of_gt hel)).trans hT
    have new : ObjOk X.prog X.w (L2.upd H s.heap.objs.size (.tup [.int (i : Nat), x])) h'' s.heap.objs.size (.tup [.int (i : Nat), x]) :=
      ⟨by show 2 ≤ sizeLine; decide, [.int i tk, u0], .cons ⟨_, rfl⟩ (.cons ru .nil), ⟨_, hT2, rfl, _, rfl⟩⟩
    have I1 : Inv X pins σ (L2.upd H s.heap.objs.size (.tup [.int (i : Nat), x])) { s with heap := h'', toks := tk + 1 } :=
      I.turnedNew (ch := [e, it]) (fun b ob hb q => (sb.2 b (fun z => hb (by simp [z]))).trans (hk b ob (fun z => hb (by simp [z])) (fun z => hb (by simp [z])) q)) hf (Nat.le_refl _) new
    refine ⟨.ref s.heap.objs.size, _, I1, rfl, ⟨_, x, rfl, I.hok.fresh (Nat.le_refl _), rfl, fun ys hy => ?_⟩, ⟨⟨u0, ?_⟩, hit'.1.at fun o q => (sb.2 it (Ne.symm hne)).trans q, hne⟩, fun b hb => ?_⟩
    · rw [I.tuple_inj hy hq]; exact hx
    · have e1 : ((i + 1 : Nat) : Int) = (i : Int) + 1 := by omega
      rw [e1]; exact he'
    · have hb' : b < s.heap.objs.size := by
        have e' : b = e ∨ b = it := by simpa using hb
        rcases e' with z | z
        · rw [z]; exact hel
        · rw [z]; exact hil
      rw [upd_ne (Nat.ne_of_lt hb')]
      exact (hf b hb).1
  done := by
    intro X hP hw hK hc i pins s σ H E I hf st hg
    subst hP hw hK
    obtain ⟨⟨old, he⟩, hit, hne⟩ := st
    obtain ⟨xs, hq, hx⟩ := hg
    obtain ⟨its, rv, p, hz⟩ := I.tuple hq
    obtain ⟨f0, f1, f2, f3, f4, f5⟩ := hf it (by simp)
    have hl := rv.length
    have hai : a ≠ it := fun z => by
      obtain ⟨o, ho, hc, _⟩ := p
      obtain ⟨o2, ho2, hc2, _⟩ := hit
      rw [z] at ho
      rw [Option.some.inj (ho.symm.trans ho2), hc2] at hc
      exact absurd (Value.type.inj hc) (by decide)
    have D := drawsAtEnd (prog := X.prog) (w := X.w) (A := X.A.in1) (show X.A.in1.handled = none from I.ok.hd hc) it a its.toArray i (by simp; omega)
    exact wpAny_pyNext_enum_endD D he ⟨rfl, hit, p⟩ fun h' eb => ⟨rfl, I.turned (t' := s.toks) (fun b o hb q => eb b o hb q) f0 f1 f3 f4 f5⟩
  self := fun A i s Q E st h => let ⟨⟨_, he⟩, _⟩ := st; wpAny_pyIter_enum he h
def iEnumT (K : PySem.W.Frag) (ta : TA) : TI := fun σ H R => ta σ H fun vs H1 => ∃ a xs, vs = [.ref a] ∧ SqT K H1 a xs ∧ R (Itet K a) H1
theorem pi_enumT {X : Cx} {e : Expr} {ta : TA} {p pos tpos : Pos} {elts : List Expr} {kk : Nat} (hg : Gl X "enumerate") (hm : X.mg "enumerate" = none) (ha : PA X [e] ta) (hs : starEach [e] X.env = [(false, eval e X.env)] := by rfl) :
    PI X (.Tuple elts kk tpos) (.Call (.Name "enumerate" p) [e] [] pos) (iEnumT X.K ta) := by
  refine ⟨fun pins s σ H R I h => ?_⟩
  refine Call_ (ld_blt I hg hm boot_enumerate (PyProof.Rows.callWith_type1 (thn (ha.run pos pins s σ H _ I h) fun us s1 ⟨vs, H1, I1, r1, q1⟩ => ?_) hs rfl))
  obtain ⟨a, xs, ex, hq, q⟩ := q1
  subst ex
  cases r1 with
  | cons r rr =>
    cases rr
    cases r
    obtain ⟨its, rv, p', hz⟩ := I1.tuple hq
    refine call_enumerate_tuple p' fun h' he hit hsz hk => wpAny_pyIter_enum he ?_
    have I2 : Inv X pins σ H1 { s1 with heap := h' } := I1.kept (t' := s1.toks) hk
    refine ⟨s1.heap.objs.size + 1, [s1.heap.objs.size + 1, s1.heap.objs.size], _, _, H1, rfl, I2, turn_enumT a (s1.heap.objs.size + 1) s1.heap.objs.size, ⟨⟨.none, he⟩, hit, Nat.succ_ne_self _⟩, fun b hb => ?_, q⟩
    have e' : b = s1.heap.objs.size + 1 ∨ b = s1.heap.objs.size := by simpa using hb
    have hle : s1.heap.objs.size ≤ b := by
      rcases e' with z | z
      · rw [z]; exact Nat.le_add_right _ _
      · rw [z]; exact Nat.le_refl _
    exact I1.fpOk hle (I1.hok.fresh hle)
theorem walk_enumT {K : PySem.W.Frag} {a : Addr} {xs : List V} : Walk (Itet K a) xs.length (fun H => SqT K H a xs) (fun i H v H' => ∃ T x, v = .ref T ∧ H T = none ∧ H' = L2.upd H T (.tup [.int (i : Nat), x]) ∧ xs[i]? = some x) :=
  ⟨fun i H hi h => ⟨xs, _, h, List.getElem?_eq_getElem hi⟩, fun H h => ⟨xs, h, Nat.le_refl _⟩, fun i H v H' hi h y => by obtain ⟨T, x, h1, h2, h3, h4⟩ := y; exact ⟨T, x, h1, h2, h3, h4 xs h⟩⟩
/-- a list or a tuple -/
def Sq (K : PySem.W.Frag) (H : Hp) (a : Addr) (xs : List V) : Prop := SqL K H a xs ∨ SqT K H a xs
def GSq (K : PySem.W.Frag) (H1 : Hp) (a : Addr) (xs : List V) (H : Hp) : Prop := (SqL K H1 a xs → SqL K H a xs) ∧ (SqT K H1 a xs → SqT K H a xs)
theorem GSq.kl {K : PySem.W.Frag} {H1 H : Hp} {a : Addr} {xs : List V} (k : Kl H1 H) : GSq K H1 a xs H := ⟨fun h => k.seq h, fun h => k.seqT h⟩
theorem GSq.same {K : PySem.W.Frag} {H1 H : Hp} {a : Addr} {xs : List V} (s : Same H1 H) : GSq K H1 a xs H := .kl (.same s)
theorem Sq.kl {K : PySem.W.Frag} {H1 H : Hp} {a : Addr} {xs : List V} (h : Sq K H1 a xs) (k : Kl H1 H) : Sq K H a xs := h.imp (fun h => k.seq h) (fun h => k.seqT h)
theorem Sq.same {K : PySem.W.Frag} {H1 H : Hp} {a : Addr} {xs : List V} (h : Sq K H1 a xs) (s : Same H1 H) : Sq K H a xs := h.kl (.same s)
theorem Sq.len {K : PySem.W.Frag} {H : Hp} {a : Addr} {xs : List V} (h : Sq K H a xs) : LenV K (.ref a) H xs.length := h.elim (fun h => Or.inl ⟨_, h, rfl⟩) (fun h => Or.inr ⟨_, h, rfl⟩)
def iSeq (K : PySem.W.Frag) (tl : TE) : TI := fun σ H R => tl σ H fun x H1 => ∃ a xs, x = .ref a ∧ Sq K H1 a xs ∧ ∀ J, Walk J xs.length (GSq K H1 a xs) (YAt xs) → R J H1
theorem pi_seq {X : Cx} {K : PySem.W.Frag} {tg l : Expr} {tl : TE} (hK : X.K = K) (hl : PE X l tl) : PI X tg l (iSeq K tl) := by
  subst hK
  refine ⟨fun pins s σ H R I h => ?_⟩
  refine thn (hl.run pins s σ H _ I h) fun v s1 ⟨x, H1, I1, r1, q1⟩ => ?_
  obtain ⟨a, xs, e, hq, q⟩ := q1
  subst e
  cases r1
  rcases hq with hq | hq
  · obtain ⟨its, rv, p, hz⟩ := I1.list hq
    refine wpAny_pyIter_list p.isList ?_
    refine ⟨s1.heap.objs.size, [s1.heap.objs.size], _, _, H1, rfl, I1.kept (t' := s1.toks) fun b o e => Heap.get?_push_of_some _ e, turn_list a _, ⟨_, Heap.get?_push_size _ rfl, rfl, rfl⟩, fun b hb => ?_, q _ (walk_list.mono (fun H g => g.1 hq) fun _ _ _ _ _ _ y => y)⟩
    have e : b = s1.heap.objs.size := by simpa using hb
    subst e
    exact I1.fpOk (Nat.le_refl _) (I1.hok.fresh (Nat.le_refl _))
  · obtain ⟨its, rv, p, hz⟩ := I1.tuple hq
    refine wpAny_pyIter_tuple (show s1.heap.IsTuple a its.toArray from p) ?_
    refine ⟨s1.heap.objs.size, [s1.heap.objs.size], _, _, H1, rfl, I1.kept (t' := s1.toks) fun b o e => Heap.get?_push_of_some _ e, turn_tuple a _, ⟨_, Heap.get?_push_size _ rfl, rfl, rfl⟩, fun b hb => ?_, q _ (walk_tup.mono (fun H g => g.2 hq) fun _ _ _ _ _ _ y => y)⟩
    have e : b = s1.heap.objs.size := by simpa using hb
    subst e
    exact I1.fpOk (Nat.le_refl _) (I1.hok.fresh (Nat.le_refl _))
def iEnumX (K : PySem.W.Frag) (ta : TA) : TI := fun σ H R => ta σ H fun vs H1 => ∃ a xs, vs = [.ref a] ∧ Sq K H1 a xs ∧ ∀ J, Walk J xs.length (GSq K H1 a xs) (fun i H v H' => ∃ T x, v = .ref T ∧ H T = none ∧ H' = L2.upd H T (.tup [.int (i : Nat), x]) ∧ xs[i]? = some x) → R J H1
theorem pi_enumX {X : Cx} {e : Expr} {ta : TA} {p pos tpos : Pos} {elts : List Expr} {kk : Nat} (hg : Gl X "enumerate") (hm : X.mg "enumerate" = none) (ha : PA X [e] ta) (hs : starEach [e] X.env = [(false, eval e X.env)] := by rfl) :
    PI X (.Tuple elts kk tpos) (.Call (.Name "enumerate" p) [e] [] pos) (iEnumX X.K ta) := by
  refine ⟨fun pins s σ H R I h => ?_⟩
  refine Call_ (ld_blt I hg hm boot_enumerate (PyProof.Rows.callWith_type1 (thn (ha.run pos pins s σ H _ I h) fun us s1 ⟨vs, H1, I1, r1, q1⟩ => ?_) hs rfl))
  obtain ⟨a, xs, ex, hq, q⟩ := q1
  subst ex
  cases r1 with
  | cons r rr =>
    cases rr
    cases r
    rcases hq with hq | hq
    · obtain ⟨its, rv, p', hz⟩ := I1.list hq
      refine call_enumerate_list p'.isList fun h' he hit hsz hk => wpAny_pyIter_enum he ?_
      have I2 : Inv X pins σ H1 { s1 with heap := h' } := I1.kept (t' := s1.toks) hk
      refine ⟨s1.heap.objs.size + 1, [s1.heap.objs.size + 1, s1.heap.objs.size], _, _, H1, rfl, I2, turn_enum a (s1.heap.objs.size + 1) s1.heap.objs.size, ⟨⟨.none, he⟩, hit, Nat.succ_ne_self _⟩, fun b hb => ?_, q _ (walk_enum.mono (fun H g => g.1 hq) fun i H v H' _ _ y => ?_)⟩
      · have e' : b = s1.heap.objs.size + 1 ∨ b = s1.heap.objs.size := by simpa using hb
        have hle : s1.heap.objs.size ≤ b := by
          rcases e' with z | z
          · rw [z]; exact Nat.le_add_right _ _
          · rw [z]; exact Nat.le_refl _
        exact I1.fpOk hle (I1.hok.fresh hle)
      · obtain ⟨T, x, y', h1, h2, h3, h4, h5⟩ := y
        obtain rfl : V.int i = x := Option.some.inj h4
        exact ⟨T, y', h1, h2, h3, h5⟩
    · obtain ⟨its, rv, p', hz⟩ := I1.tuple hq
      refine call_enumerate_tuple p' fun h' he hit hsz hk => wpAny_pyIter_enum he ?_
      have I2 : Inv X pins σ H1 { s1 with heap := h' } := I1.kept (t' := s1.toks) hk
      refine ⟨s1.heap.objs.size + 1, [s1.heap.objs.size + 1, s1.heap.objs.size], _, _, H1, rfl, I2, turn_enumT a (s1.heap.objs.size + 1) s1.heap.objs.size, ⟨⟨.none, he⟩, hit, Nat.succ_ne_self _⟩, fun b hb => ?_, q _ (walk_enumT.mono (fun H g => g.2 hq) fun i H v H' _ _ y => y)⟩
      have e' : b = s1.heap.objs.size + 1 ∨ b = s1.heap.objs.size := by simpa using hb
      have hle : s1.heap.objs.size ≤ b := by
        rcases e' with z | z
        · rw [z]; exact Nat.le_add_right _ _
        · rw [z]; exact Nat.le_refl _
      exact I1.fpOk hle (I1.hok.fresh hle)
/-- rows of states, as lists or as tuples -/
def Rws (K : PySem.W.Frag) (H : Hp) (R : V) (rs : List Row) : Prop := Dp K H R (rowsD rs) ∨ Dp K H R (rowsT rs)
def Ens (K : PySem.W.Frag) (H : Hp) (E : V) (es : List Int) : Prop := Dp K H E (intsD es) ∨ Dp K H E (intsT es)
theorem Rws.mv {K : PySem.W.Frag} {H H' : Hp} {R : V} {rs : List Row} (h : Rws K H R rs) (k : Kl H H') : Rws K H' R rs := h.imp (fun h => h.mv k) (fun h => h.mv k)
theorem Ens.mv {K : PySem.W.Frag} {H H' : Hp} {R : V} {rs : List Int} (h : Ens K H R rs) (k : Kl H H') : Ens K H' R rs := h.imp (fun h => h.mv k) (fun h => h.mv k)
theorem Ens.at {K : PySem.W.Frag} {H : Hp} {E : V} {es : List Int} (h : Ens K H E es) : ∃ e, E = .ref e ∧ Sq K H e (es.map V.int) := by
  rcases h with h | h
  · obtain ⟨e, ys, rfl, h1, h2⟩ := h.listE
    obtain rfl := dpAll_intsE h2
    exact ⟨e, rfl, Or.inl h1⟩
  · obtain ⟨e, ys, rfl, h1, h2⟩ := h.tupE
    obtain rfl := dpAll_intsE h2
    exact ⟨e, rfl, Or.inr h1⟩
theorem Rws.at {K : PySem.W.Frag} {H : Hp} {R : V} {rs : List Row} (h : Rws K H R rs) : ∃ r xs, R = .ref r ∧ Sq K H r xs ∧ xs.length = rs.length ∧
    ∀ (i : Nat) (hi : i < rs.length) (x : V), xs[i]? = some x → ∃ w ts, x = .ref w ∧ Sq K H w ts ∧ DpAll K H ts (rs[i].map tupD) := by
  rcases h with h | h
  · obtain ⟨r, xs, rfl, h1, h2⟩ := h.listE
    refine ⟨r, xs, rfl, Or.inl h1, by rw [h2.length, List.length_map], fun i hi x hx => ?_⟩
    obtain ⟨v, hv, hrow⟩ := h2.get (i := i) (d := rowD rs[i]) (by rw [List.getElem?_map, List.getElem?_eq_getElem hi]; rfl)
    obtain rfl : x = v := Option.some.inj (hx.symm.trans hv)
    obtain ⟨w, ts, rfl, hw1, hw2⟩ := hrow.listE
    exact ⟨w, ts, rfl, Or.inl hw1, hw2⟩
  · obtain ⟨r, xs, rfl, h1, h2⟩ := h.tupE
    refine ⟨r, xs, rfl, Or.inr h1, by rw [h2.length, List.length_map], fun i hi x hx => ?_⟩
    obtain ⟨v, hv, hrow⟩ := h2.get (i := i) (d := rowT rs[i]) (by rw [List.getElem?_map, List.getElem?_eq_getElem hi]; rfl)
    obtain rfl : x = v := Option.some.inj (hx.symm.trans hv)
    obtain ⟨w, ts, rfl, hw1, hw2⟩ := hrow.tupE
    exact ⟨w, ts, rfl, Or.inr hw1, hw2⟩
theorem tup_at {K : PySem.W.Frag} {H : Hp} {ts : List V} {r : Row} (h : DpAll K H ts (r.map tupD)) {j : Nat} {x : V} (hx : ts[j]? = some x) : ∃ (t : Addr) (hj : j < r.length), x = .ref t ∧ SqT K H t [.int (r[j]).1, .int (r[j]).2] := by
  obtain ⟨hj, _⟩ := List.getElem?_eq_some_iff.mp hx
  have hj' : j < r.length := by have := h.length; rw [List.length_map] at this; omega
  obtain ⟨v, hv, hb⟩ := h.get (i := j) (d := tupD r[j]) (by rw [List.getElem?_map, List.getElem?_eq_getElem hj']; rfl)
  obtain rfl : x = v := Option.some.inj (hx.symm.trans hv)
  obtain ⟨t, us, rfl, ht1, ht2⟩ := hb.tupE
  cases ht2 with
  | cons hA hB =>
    obtain rfl := hA.intE
    cases hB with
    | cons hB hC =>
      obtain rfl := hB.intE
      cases hC
      exact ⟨t, hj', rfl, ht1⟩
end Vf
set_option Elab.async false
set_option linter.all false
set_option maxRecDepth 100000
set_option maxHeartbeats 4000000
/-! own errors: made by an own __init__ over a plain own base; methods that may raise -/
namespace Vf
open PySem L2 PyProof.Rows PySem.Calls
def tMethV (C : Addr) (m : Str) (sp : Sp) (E : L2.St → XK) (ta : TE) (t : TA) : TE := fun σ H Q => ta σ H fun x H1 => ∃ a dx fs, x = .ref a ∧ H1 a = some (.ins C dx fs) ∧ fs.lookup m = none ∧ t σ H1 fun vs H2 => sp (x :: vs) H2 Q (E σ)
section
variable {X : Cx} {CX : CXT} {k : Nat} {f C : Addr} {fd : FuncData} {ps : List Str} {sp : Sp} {E : L2.St → XK} {x m : Str} {p pos apos : Pos} {e o : Expr} {es : List Expr} {ta : TE} {t : TA}
theorem pe_methV {pl : Sem Bool} (he : PE X o ta) (c : Cls X.K C) (hm : Meth X.K C m f) (F : FnOk X.prog X.w X.K X.mg X.base CX k f fd ps sp) (hr : Room k X.A) (hb : L2.Binds X.K fd ps []) (hx : ∀ σ, PassesAt CX X σ (E σ)) (ha : PA X (e :: es) t)
    (hst : starEach (e :: es) X.env = (false, eval e X.env) :: starEach es X.env := by rfl) (hpl : (backTo pos (starEach es X.env)).any (·.1) = false := by rfl)
    (ht : eval (.Call (.Attribute o m apos) (e :: es) [] pos) X.env = (do
      let ov ← eval o X.env
      standAt apos.atName
      let (f, first) ← holding [ov] (getMethod ov m pl)
      callWith pos f first (backTo pos (starEach (e :: es) X.env)) (backToKw pos (keywordEach [] X.env))) := by rfl) :
    PE X (.Call (.Attribute o m apos) (e :: es) [] pos) (tMethV C m sp E ta t) := by
  refine ⟨fun pins s σ H Q I h => ?_⟩
  refine PySem.W.methodCall_KW (pl := pl) (thn (he.run pins s σ H _ I h) fun u s1 ⟨x, H1, I1, rx, a, dx, fs, ex, ea, l, q⟩ => ?_) ht
  subst ex
  obtain rfl : u = Value.ref a := rx
  refine getmeth_ok I1 ea c hm l ?_
  refine PySem.W.callWith_K (first := [.ref a]) (h₀ := X.base) I.ok.mod.kin hm.kp (thn (ha.run pos pins s1 σ H1 _ I1 q) fun us s2 ⟨vs, H2, I2, r, q2⟩ => ⟨I2.kIn, ?_⟩) hst hpl
  exact run_fnS (us := .ref a :: us) (vs := .ref a :: vs) F hr hb (hx σ) I2 (.cons rfl r) q2
end
/-- what the top says of the plain base at B, asked for __init__ -/
structure BaseT (K : PySem.W.Frag) (mg : Str → Option Value) (x : Str) (B : Addr) : Prop where
  g : mg x = some (.ref B)
  s : PySem.W.specialIn K (.ref B) "__getattribute__" = some (some (.builtin "type.__getattribute__"))
  r : PySem.W.readsIn K B (.type "type") = true
  v : PySem.W.findCls K (.ref B) (.type "type") "__init__" = some (.val (.builtin "ValueError.__init__"))
section
variable {X : Cx} {e : Expr} {es : List Expr} {ta : TA} {x : Str} {p1 p2 pos : Pos} {B : Addr}
theorem pe_clsinit {pl : Sem Bool} (T : BaseT X.K X.mg x B) (hg : Gl X x) (ha : PA X (e :: es) ta) (hdb : (x == ("__debug__" : Str)) = false := by decide)
    (hc : eval (.Call (.Attribute (.Name x p1) "__init__" p2) (e :: es) [] pos) X.env = (do
      let ov ← eval (.Name x p1) X.env
      standAt p2.atName
      let (f, first) ← holding [ov] (getMethod ov "__init__" pl)
      callWith pos f first (backTo pos (starEach (e :: es) X.env)) (backToKw pos (keywordEach [] X.env))) := by rfl)
    (he : starEach (e :: es) X.env = (false, eval e X.env) :: starEach es X.env := by rfl) (hpl : (backTo pos (starEach es X.env)).any (·.1) = false := by rfl) :
    PE X (.Call (.Attribute (.Name x p1) "__init__" p2) (e :: es) [] pos) (tVeI X.K ta) := by
  refine ⟨fun pins s σ H Q I h => ?_⟩
  refine PySem.W.methodCall_KW (ld_glob I hg T.g ?_ hdb) hc
  refine PySem.W.method_cls I.kIn T.s (PySem.W.cls_value (mc := .type "type") I.kIn T.r T.v (by decide +kernel) ?_)
  show wpAny _ _ (callWith pos (Value.builtin "ValueError.__init__") [] (backTo pos (starEach (e :: es) X.env)) []) _ _ _
  refine PyProof.Rows.callWith_method1 (thn (ha.run pos pins _ σ H _ (I.tok _) h) fun us s1 ⟨vs, H1, I1, r1, a, C, ws, ev, hl, T, ea, q⟩ => ?_) he hpl
  subst ev
  cases r1 with
  | @cons _ u0 _ ur ra rw' =>
    obtain rfl : u0 = Value.ref a := ra
    have hlen : ur.length ≤ sizeLine := by
      rw [← Paired.length rw', sizeLine_eq]
      omega
    exact oinit_ok T I1 ea hlen fun s' J => ⟨.non, H1, J, rfl, q⟩
end
/-- what the top says of an own error at C over the base, with the __init__ at fI that keeps one field -/
structure ErrT (K : PySem.W.Frag) (mg : Str → Option Value) (x f : Str) (C fI : Addr) : Prop where
  oex : OexC K C
  g : mg x = some (.ref C)
  iC : PySem.W.findIn K (.ref C) "__init__" = some (some (.ref fI))
  tI : PySem.W.typeIn K (.ref fI) = some (.type "function")
  nf : PySem.W.findIn K (.ref C) f = some none
  xf : XfC K C
/-- the promise of such an __init__ -/
def spErr (C : Addr) (f : Str) : Sp := fun vs H Q _ => ∃ (a : Addr) (v : V), vs = [.ref a, v] ∧ H a = some (exo a C none) ∧ ∀ d, H d = none → d ≠ a → Q .non (L2.upd (L2.upd H d (exd d [(f, v)])) a (exo a C (some d)))
/-- what raise X(v) leaves -/
def Raised (H H' : Hp) (d : Addr) (f : Str) (v : V) : Prop := H d = none ∧ H' d = some (.xd [(f, v)]) ∧ Same H H'
theorem raised_of {H : Hp} {a d C : Addr} {f : Str} {v : V} (ha : H a = none) (hd : H d = none) (hda : d ≠ a) :
    Raised H (L2.upd (L2.del (L2.upd (L2.upd (L2.upd H a (exo a C none)) d (exd d [(f, v)])) a (exo a C (some d))) a) d (.xd [(f, v)])) d f v := by
  refine ⟨hd, upd_same, fun b o e => ?_⟩
  have h1 : b ≠ a := ne_of_none e ha
  have h2 : b ≠ d := ne_of_none e hd
  rw [upd_ne h2, del_ne h1, upd_ne h1, upd_ne h2, upd_ne h1]
  exact e
theorem idx_lt' {z : List Nat} {c : Nat} (h : c ∈ z) : z.idxOf c < z.length := List.idxOf_lt_length_iff.mpr h
theorem at_sg {z : Str} {c i : Nat} : StrLaws.At z (sg c) z.length i ↔ (TL.tl z)[i]? = some c := by
  rw [TL.at_iff (by rw [sg_tl]; simp) i, sg_tl]
  rw [← List.head?_drop]
  cases h : (TL.tl z).drop i with
  | nil => exact ⟨fun h => absurd h (by show ¬ (([] : List Nat) == [c]) = true; exact Bool.false_ne_true), fun h => absurd h (by simp)⟩
  | cons a r =>
    constructor
    · intro h
      have h2 : [a] = [c] := eq_of_beq h
      exact congrArg some (List.cons.inj h2).1
    · intro h
      have h2 : a = c := Option.some.inj h
      subst h2
      exact beq_self_eq_true [a]
theorem occ_sg {z : Str} {c : Nat} (h : c ∈ TL.tl z) : ∃ r, Builtin.Str.occurrences z (sg c) 0 z.length 1 = (TL.tl z).idxOf c :: r := by
  have hlt := idx_lt' h
  have hget : (TL.tl z)[(TL.tl z).idxOf c]? = some c := by
    rw [List.getElem?_eq_getElem hlt]
    simp
  rcases StrLaws.occ_head z (sg c) 1 (Nat.le_refl 1) with ⟨h0, hn⟩ | ⟨i, r, h0, hi, hn⟩
  · exact absurd (at_sg.mpr hget) (hn _)
  · rw [at_sg] at hi
    have e : i = (TL.tl z).idxOf c := by
      rcases Nat.lt_trichotomy i ((TL.tl z).idxOf c) with q | q | q
      · exfalso
        have := List.not_of_lt_findIdx (p := (· == c)) (xs := TL.tl z) q
        obtain ⟨hl, he⟩ := List.getElem?_eq_some_iff.mp hi
        simp [he] at this
      · exact q
      · exact absurd (at_sg.mpr hget) (hn _ q)
    exact ⟨r, by rw [h0, e]⟩
theorem find_sg {z : Str} {c : Nat} (h : c ∈ TL.tl z) : Txt.find z (sg c) = ((TL.tl z).idxOf c : Int) := by
  obtain ⟨r, e⟩ := occ_sg h
  unfold Txt.find
  rw [e]
end Vf
set_option Elab.async false
set_option linter.all false
set_option maxRecDepth 100000
set_option maxHeartbeats 4000000
/-! functions as values: made in one def, handed to another, called there -/
namespace Vf
open PySem L2 PyProof.Rows NdefX LamX
/-- the cell at c, told to the last bit -/
def CellX (c : Addr) (o : Obj) : HO := .ext fun h => h.get? c = some o
abbrev Cs := List (Addr × Obj)
def hid (cs : Cs) (H : Hp) : Hp := fun b => if (cs.lookup b).isSome then none else H b
def shw (cs : Cs) (H : Hp) : Hp := fun b => match cs.lookup b with | some o => some (CellX b o) | none => H b
def HeldC (cs : Cs) (H : Hp) : Prop := ∀ c o, cs.lookup c = some o → H c = some (CellX c o)
section
variable {cs : Cs} {H H' : Hp} {b c : Addr} {o : Obj} {u : HO}
theorem hid_in (h : cs.lookup c = some o) : hid cs H c = none := by unfold hid; rw [h]; rfl
theorem hid_out (h : cs.lookup c = none) : hid cs H c = H c := by unfold hid; rw [h]; rfl
theorem shw_in (h : cs.lookup c = some o) : shw cs H c = some (CellX c o) := by unfold shw; rw [h]
theorem shw_out (h : cs.lookup c = none) : shw cs H c = H c := by unfold shw; rw [h]
theorem hid_some (e : hid cs H b = some u) : cs.lookup b = none ∧ H b = some u := by
  cases q : cs.lookup b with
  | some x => rw [hid_in q] at e; cases e
  | none => rw [hid_out q] at e; exact ⟨rfl, e⟩
theorem HeldC.out (hc : HeldC cs H) (e : H b = some u) (n : ∀ x, u ≠ CellX b x) : cs.lookup b = none := by
  cases q : cs.lookup b with
  | some x => rw [hc b x q] at e; exact absurd (Option.some.inj e).symm (n x)
  | none => rfl
theorem HeldC.out0 (hc : HeldC cs H) (e : H b = none) : cs.lookup b = none := by
  cases q : cs.lookup b with
  | some x => rw [hc b x q] at e; cases e
  | none => rfl
theorem held_shw : HeldC cs (shw cs H) := fun _ _ e => shw_in e
end
section
variable {P : Program} {w : World} {cs : Cs} {H H' : Hp} {h h' B : Heap} {fs : List Addr}
theorem hok_hid (ok : HOk P w H h) (hc : HeldC cs H) : HOk P w (hid cs H) h := fun b u e => by
  obtain ⟨q, e1⟩ := hid_some e
  refine (ok b u e1).stay (fun _ _ _ z => z) (fun x z => ?_) fun x xs z => ?_
  · rw [hid_out (hc.out z fun y hy => by cases hy)]; exact z
  · rw [hid_out (hc.out z fun y hy => by cases hy)]; exact z
theorem hok_shw (ok : HOk P w H h) (hn : ∀ c o, cs.lookup c = some o → H c = none ∧ h.get? c = some o) : HOk P w (shw cs H) h := fun b u e => by
  have out : ∀ x v, H x = some v → shw cs H x = some v := fun x v z => by
    cases q : cs.lookup x with
    | some y => rw [(hn x y q).1] at z; cases z
    | none => rw [shw_out q]; exact z
  cases q : cs.lookup b with
  | some y =>
    rw [shw_in q] at e
    cases e
    have hb := (hn b y q).2
    exact ⟨hb, ⟨_, hb⟩, fun h1 h2 a st => st _ a⟩
  | none =>
    rw [shw_out q] at e
    exact (ok b u e).stay (fun _ _ _ z => z) (fun x z => out _ _ z) fun x xs z => out _ _ z
theorem cell_at (ok : HOk P w H h) (hc : HeldC cs H) {c : Addr} {o : Obj} (e : cs.lookup c = some o) : h.get? c = some o := (ok c _ (hc c o e)).1
/-- behind a call made with the cells hidden -/
theorem un_shw (ok : HOk P w H h) (hc : HeldC cs H) (hf : ∀ c o, cs.lookup c = some o → c ∉ fs) (u : Un fs [] (hid cs H) H' h h') (ok' : HOk P w H' h') :
    Un fs [] H (shw cs H') h h' ∧ HOk P w (shw cs H') h' ∧ ∀ c o, cs.lookup c = some o → H' c = none := by
  have cell : ∀ c o, cs.lookup c = some o → H' c = none ∧ h'.get? c = some o := fun c o e =>
    ⟨u.free c o (cell_at ok hc e) (hid_in e) (by simp), u.keep c o (cell_at ok hc e) (hid_in e) (hf c o e) (by simp)⟩
  refine ⟨⟨fun b o e n hb hx => ?_, fun b o e n hb hx => ?_, fun b o e n hx => ?_, u.there, fun b xs e => ?_, fun b o v e => ?_, fun b ps e => ?_⟩, hok_shw ok' cell, fun c o e => (cell c o e).1⟩
  · exact u.keep b o e (by rw [hid_out (hc.out0 n)]; exact n) hb hx
  · exact u.slot b o e (by rw [hid_out (hc.out0 n)]; exact n) hb hx
  · rw [shw_out (hc.out0 n)]
    exact u.free b o e (by rw [hid_out (hc.out0 n)]; exact n) hx
  · have q := hc.out e fun y hy => by cases hy
    rw [shw_out q]; exact u.tups b xs (by rw [hid_out q]; exact e)
  · have q := hc.out e fun y hy => by cases hy
    rw [shw_out q]; exact u.frzs b o v (by rw [hid_out q]; exact e)
  · have q := hc.out e fun y hy => by cases hy
    rw [shw_out q]; exact u.tbls b ps (by rw [hid_out q]; exact e)
theorem ub_shw (ok : HOk P w H h) (hc : HeldC cs H) (hf : ∀ c o, cs.lookup c = some o → c ∉ fs) (u : UB fs (hid cs H) H' h B h') (ok' : HOk P w H' B) :
    UB fs H (shw cs H') h B h' ∧ HOk P w (shw cs H') B ∧ ∀ c o, cs.lookup c = some o → H' c = none ∧ B.get? c = some o := by
  have cell : ∀ c o, cs.lookup c = some o → H' c = none ∧ B.get? c = some o := fun c o e =>
    ⟨u.free c o (cell_at ok hc e) (hid_in e), u.keep c o (cell_at ok hc e) (hid_in e) (hf c o e)⟩
  refine ⟨⟨fun b o e n hb => ?_, u.slot, fun b o e n => ?_, u.there, fun b xs e => ?_, fun b o v e => ?_, fun b ps e => ?_⟩, hok_shw ok' cell, cell⟩
  · exact u.keep b o e (by rw [hid_out (hc.out0 n)]; exact n) hb
  · rw [shw_out (hc.out0 n)]
    exact u.free b o e (by rw [hid_out (hc.out0 n)]; exact n)
  · have q := hc.out e fun y hy => by cases hy
    rw [shw_out q]; exact u.tups b xs (by rw [hid_out q]; exact e)
  · have q := hc.out e fun y hy => by cases hy
    rw [shw_out q]; exact u.frzs b o v (by rw [hid_out q]; exact e)
  · have q := hc.out e fun y hy => by cases hy
    rw [shw_out q]; exact u.tbls b ps (by rw [hid_out q]; exact e)
/-- behind a call made with the cells shown -/
theorem un_hid (hn : ∀ c o, cs.lookup c = some o → H c = none ∧ h.get? c = some o ∧ c ∉ fs) (u : Un fs [] (shw cs H) H' h h') (ok' : HOk P w H' h') (hc : HeldC cs H') :
    Un fs [] H (hid cs H') h h' ∧ HOk P w (hid cs H') h' := by
  have out : ∀ b v, H b = some v → cs.lookup b = none := fun b v e => by
    cases q : cs.lookup b with
    | some y => rw [(hn b y q).1] at e; cases e
    | none => rfl
  refine ⟨⟨fun b o e n hb hx => ?_, fun b o e n hb hx => ?_, fun b o e n hx => ?_, u.there, fun b xs e => ?_, fun b o v e => ?_, fun b ps e => ?_⟩, hok_hid ok' hc⟩
  · cases q : cs.lookup b with
    | some y =>
      have e1 := (hn b y q).2.1
      rw [e] at e1; cases e1
      exact cell_at ok' hc q
    | none => exact u.keep b o e (by rw [shw_out q]; exact n) hb hx
  · cases q : cs.lookup b with
    | some y => exact absurd hb (hn b y q).2.2
    | none => exact u.slot b o e (by rw [shw_out q]; exact n) hb hx
  · cases q : cs.lookup b with
    | some y => exact hid_in q
    | none =>
      rw [hid_out q]
      exact u.free b o e (by rw [shw_out q]; exact n) hx
  · have q := out _ _ e
    rw [hid_out q]; exact u.tups b xs (by rw [shw_out q]; exact e)
  · have q := out _ _ e
    rw [hid_out q]; exact u.frzs b o v (by rw [shw_out q]; exact e)
  · have q := out _ _ e
    rw [hid_out q]; exact u.tbls b ps (by rw [shw_out q]; exact e)
theorem ub_hid (hn : ∀ c o, cs.lookup c = some o → H c = none ∧ h.get? c = some o ∧ c ∉ fs) (u : UB fs (shw cs H) H' h B h') (ok' : HOk P w H' B) (hc : HeldC cs H') :
    UB fs H (hid cs H') h B h' ∧ HOk P w (hid cs H') B := by
  have out : ∀ b v, H b = some v → cs.lookup b = none := fun b v e => by
    cases q : cs.lookup b with
    | some y => rw [(hn b y q).1] at e; cases e
    | none => rfl
  refine ⟨⟨fun b o e n hb => ?_, u.slot, fun b o e n => ?_, u.there, fun b xs e => ?_, fun b o v e => ?_, fun b ps e => ?_⟩, hok_hid ok' hc⟩
  · cases q : cs.lookup b with
    | some y =>
      have e1 := (hn b y q).2.1
      rw [e] at e1; cases e1
      exact cell_at ok' hc q
    | none => exact u.keep b o e (by rw [shw_out q]; exact n) hb
  · cases q : cs.lookup b with
    | some y => exact hid_in q
    | none =>
      rw [hid_out q]
      exact u.free b o e (by rw [shw_out q]; exact n)
  · have q := out _ _ e
    rw [hid_out q]; exact u.tups b xs (by rw [shw_out q]; exact e)
  · have q := out _ _ e
    rw [hid_out q]; exact u.frzs b o v (by rw [shw_out q]; exact e)
  · have q := out _ _ e
    rw [hid_out q]; exact u.tbls b ps (by rw [shw_out q]; exact e)
end
/-! what is raised -/
structure CxOk (P : Program) (w : World) (CX : CXT) : Prop where
  shw : ∀ (outer : List Env) (cs : Cs) (H : Hp) (s : Shared) (E : XK) (u : Value) (s' : Shared), HOk P w H s.heap → HeldC cs H → (∀ c o, cs.lookup c = some o → c ∉ frs outer) →
    CX outer (hid cs H) s (fun cl d H2 => (∀ c o, cs.lookup c = some o → H2 c = none) → E cl d (Vf.shw cs H2)) u s' → CX outer H s E u s'
  hid : ∀ (outer : List Env) (cs : Cs) (H : Hp) (s : Shared) (E : XK) (u : Value) (s' : Shared), (∀ c o, cs.lookup c = some o → H c = none ∧ s.heap.get? c = some o ∧ c ∉ frs outer) →
    CX outer (Vf.shw cs H) s (fun cl d H2 => HeldC cs H2 ∧ E cl d (Vf.hid cs H2)) u s' → CX outer H s E u s'
theorem cxok0 {P : Program} {w : World} : CxOk P w CX0 := ⟨fun _ _ _ _ _ _ _ _ _ _ z => z.elim, fun _ _ _ _ _ _ _ _ z => z.elim⟩
theorem cxok {P : Program} {w : World} : CxOk P w (L2.CX P w) := by
  refine ⟨fun outer cs H s E u s' ok hc hf z => ?_, fun outer cs H s E u s' hn z => ?_⟩
  · obtain ⟨a, B, H', cls, d, e, fl, ok', ub, na, os, ag, hE⟩ := z
    obtain ⟨u1, k1, hB⟩ := ub_shw ok hc hf ub ok'
    refine ⟨a, B, _, cls, d, e, fl, k1, u1, ?_, os, ag, hE fun c o e => (hB c o e).1⟩
    cases q : cs.lookup a with
    | some y =>
      have z2 := fl.2.1
      rw [(hB a y q).2] at z2; cases z2
    | none => rw [shw_out q]; exact na
  · obtain ⟨a, B, H', cls, d, e, fl, ok', ub, na, os, ag, hc, hE⟩ := z
    obtain ⟨u1, k1⟩ := ub_hid hn ub ok' hc
    refine ⟨a, B, _, cls, d, e, fl, k1, u1, ?_, os, ag, hE⟩
    cases q : cs.lookup a with
    | some y => exact hid_in q
    | none => rw [hid_out q]; exact na
/-! a function by its address: whenever S holds of the heap, a call of it keeps the promise -/
structure FV (P : Program) (w : World) (K : PySem.W.Frag) (mg : Str → Option Value) (base : Heap) (CX : CXT) (k : Nat) (f : Addr) (S : Hp → Prop) (sp : Sp) : Prop where
  fn : ∀ H h, K.In h → HOk P w H h → S H → PySem.W.FnAt f h
  run : ∀ (A : Around) (outer : List Env) (s : Shared) (H : Hp) (us : List Value) (vs : List V) (Q : VK) (E : XK), Room k A → Env0 P w K mg base A outer s H → S H → Vals vs us → sp vs H Q E →
    codeAny (model P w) A (.call (.ref f) ⟨us, []⟩) (CR CX outer P w H s Q E) s
section
variable {P : Program} {w : World} {K : PySem.W.Frag} {mg : Str → Option Value} {base : Heap} {CX : CXT} {k j : Nat} {f : Addr} {S S' : Hp → Prop} {sp sp' : Sp}
theorem FV.mono (F : FV P w K mg base CX j f S sp) (h : j ≤ k) : FV P w K mg base CX k f S sp := ⟨F.fn, fun A outer s H us vs Q E hr => F.run A outer s H us vs Q E (hr.mono h)⟩
theorem FV.imp (F : FV P w K mg base CX k f S sp) (hS : ∀ H, S' H → S H) (h : ∀ vs H Q E, S' H → sp' vs H Q E → sp vs H Q E) : FV P w K mg base CX k f S' sp' :=
  ⟨fun H h ki ok q => F.fn H h ki ok (hS H q), fun A outer s H us vs Q E hr e q r z => F.run A outer s H us vs Q E hr e (hS H q) r (h vs H Q E q z)⟩
/-- a def of the module's top as a value -/
theorem fv_of_fun {x qual : Str} {stt : Stmt} {fd : FuncData} {ps : List Str} (Fu : Fun K x qual stt f fd) (F : FnOk P w K mg base CX k f fd ps sp) (hb : Binds K fd ps []) : FV P w K mg base CX k f (fun _ => True) sp :=
  ⟨fun H h ki ok q => by
    obtain ⟨oc, od, kV, doc, pm, an, cdv, ct, osl, rfl, lk, hcd⟩ := Fu.ex
    exact ⟨_, _, _, _, ki _ _ lk⟩, fun A outer s H us vs Q E hr e q r z => by
    have l : us.length = ps.length := by rw [← r.length]; exact F.len _ _ _ _ z
    have b := hb s us (e.mod.kin.keeps fun b o eb => (e.bs b o eb).1) (by rw [List.append_nil]; exact l)
    rw [List.append_nil] at b
    exact F.run A outer s H _ us vs Q E hr e b r z⟩
end
/-- the captured cells: cs tells them -/
structure Cap (cl : List (Str × Addr)) (fr : List Str) (ws : List (Option V)) (cs : Cs) : Prop where
  len : ws.length = fr.length
  cell : ∀ c o, cs.lookup c = some o → ∃ v, o.data = .cell v
  all : ∀ y c, cl.lookup y = some c → ∃ o, cs.lookup c = some o
  inj : ∀ x y c, cl.lookup x = some c → cl.lookup y = some c → x = y
  has : ∀ (i : Nat) (y : Str), fr[i]? = some y → ∃ c, cl.lookup y = some c ∧ ∀ v, ws[i]? = some (some v) → ∃ u o, RelV v u ∧ cs.lookup c = some o ∧ o.data = .cell (some u)
/-- the function and its cells stand -/
structure HeldF (f : Addr) (F : NF) (cs : Cs) (H : Hp) : Prop where
  fn : H f = some (FnO f F)
  code : H F.c = some (CodeO F.c F.qual)
  cells : HeldC cs H
def spHid (cs : Cs) (sp : Sp) : Sp := fun vs H Q E => sp vs (hid cs H) (fun v H2 => (∀ c o, cs.lookup c = some o → H2 c = none) → Q v (shw cs H2)) (fun cl d H2 => (∀ c o, cs.lookup c = some o → H2 c = none) → E cl d (shw cs H2))
section
variable {P : Program} {w : World} {K : PySem.W.Frag} {mg : Str → Option Value} {base : Heap} {CX : CXT} {k : Nat} {f : Addr} {F : NF} {ps fr : List Str} {ws : List (Option V)} {cs : Cs} {sp : List (Option V) → Sp}
theorem fv_of_nok (hX : CxOk P w CX) (o : NOk P w K mg base CX k f F ps fr sp) (c : Cap F.cl fr ws cs) : FV P w K mg base CX k f (HeldF f F cs) (spHid cs (sp ws)) := by
  refine ⟨fun H h ki ok q => ?_, fun A outer s H us vs Q E hr e q r z => ?_⟩
  · obtain ⟨od, sl, doc, pm, ctv, ho⟩ := fnO_at ok q.fn
    exact ⟨_, od, _, sl, ho⟩
  · have nfs : ∀ c o, cs.lookup c = some o → c ∉ frs outer := fun c o e1 hm => by
      have := e.frf c hm
      rw [q.cells c o e1] at this; cases this
    have okh := hok_hid e.hok q.cells
    have e2 : Env0 P w K mg base A outer s (hid cs H) := ⟨e.frames, e.mod, fun b o eb => ⟨(e.bs b o eb).1, by
        cases q2 : cs.lookup b with
        | some y => exact hid_in q2
        | none => rw [hid_out q2]; exact (e.bs b o eb).2⟩, e.bsz, e.funs, fun b hb => by
        cases q2 : cs.lookup b with
        | some y => exact hid_in q2
        | none => rw [hid_out q2]; exact e.frf b hb, okh, e.bare⟩
    have of : cs.lookup f = none := by
      cases q2 : cs.lookup f with
      | none => rfl
      | some y =>
        obtain ⟨od, sl, doc, pm, ctv, ho⟩ := fnO_at e.hok q.fn
        have h1 := cell_at e.hok q.cells q2
        obtain ⟨v, hv⟩ := c.cell f y q2
        rw [ho] at h1; cases h1; cases hv
    have oc : cs.lookup F.c = none := by
      cases q2 : cs.lookup F.c with
      | none => rfl
      | some y =>
        obtain ⟨⟨o1, v1, t1, h1, h2, h3⟩, _, _⟩ := e.hok _ _ q.code
        have h4 := cell_at e.hok q.cells q2
        obtain ⟨v, hv⟩ := c.cell _ y q2
        rw [h1] at h4; cases h4
        rw [h2] at hv; cases hv
    have C : CellsAt F.cl fr ws s.heap (hid cs H) := ⟨c.len, fun y a ea => by
        obtain ⟨o, ho⟩ := c.all y a ea
        obtain ⟨v, hv⟩ := c.cell a o ho
        exact ⟨hid_in ho, v, o, cell_at e.hok q.cells ho, hv⟩, c.inj, fun i y ey => by
        obtain ⟨a, ha, hv⟩ := c.has i y ey
        exact ⟨a, ha, fun v ev => by
          obtain ⟨u, o, h1, h2, h3⟩ := hv v ev
          exact ⟨u, h1, o, cell_at e.hok q.cells h2, h3⟩⟩⟩
    refine codeAny_mono (o.run A outer s (hid cs H) us vs ws _ _ hr e2 (by rw [hid_out of]; exact q.fn) (by rw [hid_out oc]; exact q.code) C r z) fun rr s' hq => ?_
    cases rr with
    | error er => exact hX.shw outer cs H s E er s' e.hok q.cells nfs hq
    | ok fl =>
      cases fl with
      | next => exact hq
      | brk => exact hq
      | cont => exact hq
      | ret u =>
        obtain ⟨v, H', os, bare, un, ok', rv, q2⟩ := hq
        obtain ⟨u1, k1, k2⟩ := un_shw e.hok q.cells nfs un ok'
        exact ⟨v, _, os, bare, u1, k1, rv, q2 k2⟩
end
/-! calls of a name that holds a function -/
def tCallV (i : Nat) (f : Addr) (S : Hp → Prop) (sp : Sp) (E : XK) (t : TA) : TE := fun σ H Q => σ[i]? = some (some (.ref f)) ∧ S H ∧ t σ H fun vs H1 => S H1 ∧ sp vs H1 Q E
section
variable {X : Cx} {CX : CXT} {i k : Nat} {f : Addr} {S : Hp → Prop} {sp : Sp} {E : XK} {x : Str} {p pos : Pos} {e : Expr} {es : List Expr} {t : TA}
theorem run_v {pins : List (Addr × Obj)} {σ : L2.St} {H : Hp} {s : Shared} {Q : VK} {us : List Value} {vs : List V} (F : FV X.prog X.w X.K X.mg X.base CX k f S sp) (hr : Room k X.A) (hx : Passes CX X E) (I : Inv X pins σ H s) (hS : S H) (r : Vals vs us) (q : sp vs H Q E) :
    wpAny (model X.prog X.w) X.A (call (.ref f) us) (EP X pins σ Q) X.xe s := by
  refine wpAny_call (codeAny_mono (F.run X.A X.stack s H us vs Q E hr I.env0 hS r q) fun rr s' hq => ?_)
  rcases rr with er | fl
  · exact hx pins σ H s er s' I hq
  · cases fl with
    | ret u => exact I.after hq
    | next => exact hq.elim
    | brk => exact hq.elim
    | cont => exact hq.elim
theorem pe_callV (F : FV X.prog X.w X.K X.mg X.base CX k f S sp) (hr : Room k X.A) (hx : Passes CX X E) (hN : X.N[i]? = some x) (hv : Vis X.env.scope x) (ha : PA X (e :: es) t)
    (hd : (x == ("__debug__" : Str)) = false := by decide) (hcd : (x == ("__classdict__" : Str)) = false := by decide)
    (he : starEach (e :: es) X.env = (false, eval e X.env) :: starEach es X.env := by rfl) (hpl : (backTo pos (starEach es X.env)).any (·.1) = false := by rfl) :
    PE X (.Call (.Name x p) (e :: es) [] pos) (tCallV i f S sp E t) := by
  refine ⟨fun pins s σ H Q I h => ?_⟩
  obtain ⟨hs, hS, ht⟩ := h
  refine wpAny_Call_Name_kw (thn ((pe_var (pos := p) hN hv hd hcd).run pins s σ H (fun v H1 => v = .ref f ∧ H1 = H) I ⟨.ref f, hs, rfl, rfl⟩) fun u s1 ⟨v, H1, I1, r1, q1⟩ => ?_)
  obtain ⟨ev, eH⟩ := q1
  subst ev
  rw [eH] at I1
  have r1' : u = Value.ref f := r1
  subst r1'
  refine PySem.W.callWith_F (first := []) (F.fn H s1.heap I1.kIn I1.hok hS) (thn (ha.run pos pins s1 σ H _ I1 ht) fun us s2 ⟨vs, H2, I2, r, h1, q⟩ => ⟨F.fn H2 s2.heap I2.kIn I2.hok h1, ?_⟩) he hpl
  exact run_v F hr hx I2 h1 r q
/-- the name in the slot i -/
theorem pcv (i : Nat) (F : FV X.prog X.w X.K X.mg X.base CX k f S sp) (hr : Room k X.A) (hx : Passes CX X E) (ha : PA X (e :: es) t) (hN : X.N[i]? = some x := by rfl) (hv : Vis X.env.scope x := by first | exact Or.inl rfl | exact Or.inr (Or.inl rfl) | exact Or.inr (Or.inr rfl))
    (hd : (x == ("__debug__" : Str)) = false := by decide) (hcd : (x == ("__classdict__" : Str)) = false := by decide)
    (he : starEach (e :: es) X.env = (false, eval e X.env) :: starEach es X.env := by rfl) (hpl : (backTo pos (starEach es X.env)).any (·.1) = false := by rfl) :
    PE X (.Call (.Name x p) (e :: es) [] pos) (tCallV i f S sp E t) := pe_callV F hr hx hN hv ha hd hcd he hpl
theorem pe_callV0 (F : FV X.prog X.w X.K X.mg X.base CX k f S sp) (hr : Room k X.A) (hx : Passes CX X E) (hN : X.N[i]? = some x) (hv : Vis X.env.scope x)
    (hd : (x == ("__debug__" : Str)) = false := by decide) (hcd : (x == ("__classdict__" : Str)) = false := by decide) : PE X (.Call (.Name x p) [] [] pos) (tCallV i f S sp E tNil) := by
  refine ⟨fun pins s σ H Q I h => ?_⟩
  obtain ⟨hs, hS, h1, q⟩ := h
  refine wpAny_Call_Name_kw (thn ((pe_var (pos := p) hN hv hd hcd).run pins s σ H (fun v H1 => v = .ref f ∧ H1 = H) I ⟨.ref f, hs, rfl, rfl⟩) fun u s1 ⟨v, H1, I1, r1, q1⟩ => ?_)
  obtain ⟨ev, eH⟩ := q1
  subst ev
  rw [eH] at I1
  have r1' : u = Value.ref f := r1
  subst r1'
  refine PySem.W.callWith_F0 (first := []) (F.fn H s1.heap I1.kIn I1.hok hS) ?_
  exact run_v F hr hx I1 h1 .nil q
end
/-! a call that hands functions of this frame on: its cells are shown meanwhile -/
structure CapX (X : Cx) (σ : L2.St) (cs : Cs) : Prop where
  ok : X.Ok
  dom : ∀ c o, cs.lookup c = some o → (∃ v, o.data = .cell v) ∧ ∃ y, X.env.cells.lookup y = some c
  all : ∀ y c, X.env.cells.lookup y = some c → ∃ o, cs.lookup c = some o
  val : ∀ (j : Nat) (y : Str) (v : V), X.N[j]? = some y → σ[j]? = some (some v) → X.env.scope.names.lookup y = some .cell → ∃ c u o, X.env.cells.lookup y = some c ∧ RelV v u ∧ cs.lookup c = some o ∧ o.data = .cell (some u)
def tCallC (X : Cx) (sp : Sp) (dvs : List V) (E : XK) (t : TA) : TE := fun σ H Q => t σ H fun vs H1 => ∀ cs : Cs, CapX X σ cs → (∀ c o, cs.lookup c = some o → H1 c = none) →
  sp (vs ++ dvs) (shw cs H1) (fun v H2 => HeldC cs H2 ∧ Q v (hid cs H2)) (fun cl d H2 => HeldC cs H2 ∧ E cl d (hid cs H2))
def capsOf (cells : List (Str × Addr)) (h : Heap) : Cs := cells.filterMap fun p => if cells.lookup p.1 = some p.2 then (h.get? p.2).map fun o => (p.2, o) else none
theorem lookup_mem {α : Type} : ∀ {l : List (Addr × α)} {c : Addr} {o : α}, l.lookup c = some o → (c, o) ∈ l
  | [], _, _, h => by cases h
  | (a, b) :: l, c, o, h => by
    rw [List.lookup_cons] at h
    cases q : c == a with
    | true =>
      rw [q] at h
      cases h
      rw [beq_iff_eq.mp q]
      exact List.mem_cons_self
    | false =>
      rw [q] at h
      exact List.mem_cons_of_mem _ (lookup_mem h)
theorem mem_lookup' {α : Type} : ∀ {l : List (Addr × α)} {c : Addr} {o : α}, (c, o) ∈ l → ∃ o', l.lookup c = some o'
  | (a, b) :: l, c, o, h => by
    rw [List.lookup_cons]
    cases q : c == a with
    | true => exact ⟨b, rfl⟩
    | false =>
      rcases List.mem_cons.mp h with e | e
      · cases e
        simp at q
      · exact mem_lookup' e
theorem capsOf_some {cells : List (Str × Addr)} {h : Heap} {c : Addr} {o : Obj} (e : (capsOf cells h).lookup c = some o) : h.get? c = some o ∧ ∃ y, cells.lookup y = some c := by
  have hm := lookup_mem e
  obtain ⟨⟨y, a⟩, _, h2⟩ := List.mem_filterMap.mp hm
  dsimp only at h2
  split at h2
  · rename_i hl
    cases q : h.get? a with
    | none => rw [q] at h2; cases h2
    | some o' =>
      rw [q] at h2
      have h3 : (a, o') = (c, o) := Option.some.inj h2
      cases h3
      exact ⟨q, y, hl⟩
  · cases h2
theorem mem_of_look {l : List (Str × Addr)} {y : Str} {c : Addr} (h : l.lookup y = some c) : (y, c) ∈ l := PySem.mem_of_lookup h
theorem capsOf_has {cells : List (Str × Addr)} {h : Heap} {y : Str} {c : Addr} {o : Obj} (e : cells.lookup y = some c) (ho : h.get? c = some o) : (capsOf cells h).lookup c = some o := by
  have hm : (c, o) ∈ capsOf cells h := List.mem_filterMap.mpr ⟨(y, c), mem_of_look e, by
    dsimp only
    rw [if_pos e, ho]
    rfl⟩
  obtain ⟨o', h'⟩ := mem_lookup' hm
  have := (capsOf_some h').1
  rw [ho] at this
  cases this
  exact h'
section
variable {X : Cx} {pins : List (Addr × Obj)} {σ : L2.St} {H : Hp} {s : Shared}
theorem capX_of (I : Inv X pins σ H s) : CapX X σ (capsOf X.env.cells s.heap) := by
  refine ⟨I.ok, fun c o e => ?_, fun y c e => ?_, fun j y v e1 e2 e3 => ?_⟩
  · obtain ⟨h1, y, h2⟩ := capsOf_some e
    obtain ⟨v, o', ho', hd⟩ := I.cell y c h2
    rw [h1] at ho'; cases ho'
    exact ⟨⟨v, hd⟩, y, h2⟩
  · obtain ⟨v, o', ho', hd⟩ := I.cell y c e
    exact ⟨o', capsOf_has e ho'⟩
  · obtain ⟨m, hn, hl⟩ := I.loc
    obtain ⟨u, r, l⟩ := hl j y v e1 e2 (.inr (.inl e3))
    rcases l with ⟨z, _⟩ | ⟨_, c, hc, o, ho, hd⟩
    · have z' : X.env.scope.names.lookup y = some .local := z
      rw [e3] at z'; cases z'
    · exact ⟨c, u, o, hc, r, capsOf_has hc ho, hd⟩
variable {CX : CXT} {k : Nat} {f : Addr} {fd : FuncData} {ps : List Str} {sp : Sp} {dvs : List V} {ds : List Value} {E : XK} {x : Str} {p pos : Pos} {e : Expr} {es : List Expr} {t : TA}
theorem caps_free (hfn : ∀ y, X.fn y = true) (I : Inv X pins σ H s) : ∀ c o, (capsOf X.env.cells s.heap).lookup c = some o → H c = none ∧ s.heap.get? c = some o ∧ c ∉ frs X.stack := fun c o e => by
  obtain ⟨h1, y, h2⟩ := capsOf_some e
  refine ⟨I.freeC y c h2, h1, fun hm => ?_⟩
  rcases List.mem_cons.mp (I.stkSub c hm) with z | z
  · exact I.cne y c h2 z
  · obtain ⟨_, o', ho', _⟩ := I.ok.funs.mem z
    exact absurd (Nat.lt_of_lt_of_le (Heap.lt_size ho') (I.ok.cab y c (hfn y) h2)) (Nat.lt_irrefl _)
theorem run_fnC {Q : VK} {us : List Value} {vs : List V} (hX : CxOk X.prog X.w CX) (F : FnOk X.prog X.w X.K X.mg X.base CX k f fd ps sp) (hr : Room k X.A) (hfn : ∀ y, X.fn y = true) (hb : Binds X.K fd ps ds) (hd : Vals dvs ds) (hx : Passes CX X E) (I : Inv X pins σ H s) (r : Vals vs us)
    (h : ∀ cs : Cs, CapX X σ cs → (∀ c o, cs.lookup c = some o → H c = none) → sp (vs ++ dvs) (shw cs H) (fun v H2 => HeldC cs H2 ∧ Q v (hid cs H2)) (fun cl d H2 => HeldC cs H2 ∧ E cl d (hid cs H2))) :
    wpAny (model X.prog X.w) X.A (call (.ref f) us) (EP X pins σ Q) X.xe s := by
  have hn := caps_free hfn I
  have hsp := h _ (capX_of I) fun c o e => (hn c o e).1
  have r2 : Vals (vs ++ dvs) (us ++ ds) := r.append hd
  have hl : (us ++ ds).length = ps.length := by rw [← r2.length]; exact F.len _ _ _ _ hsp
  have e0 := I.env0
  have notbase : ∀ b o, X.base.get? b = some o → (capsOf X.env.cells s.heap).lookup b = none := fun b o eb => by
    cases q : (capsOf X.env.cells s.heap).lookup b with
    | none => rfl
    | some y =>
      obtain ⟨_, y2, h2⟩ := capsOf_some q
      exact absurd (Nat.lt_of_lt_of_le (Nat.lt_of_lt_of_le (Heap.lt_size eb) I.ok.bsz) (I.ok.cab y2 b (hfn y2) h2)) (Nat.lt_irrefl _)
  have e1 : Env0 X.prog X.w X.K X.mg X.base X.A X.stack s (shw (capsOf X.env.cells s.heap) H) := ⟨e0.frames, e0.mod, fun b o eb => ⟨(e0.bs b o eb).1, by
      rw [shw_out (notbase b o eb)]; exact (e0.bs b o eb).2⟩, e0.bsz, e0.funs, fun b hb => by
      cases q : (capsOf X.env.cells s.heap).lookup b with
      | none => rw [shw_out q]; exact e0.frf b hb
      | some y => exact absurd hb (hn b y q).2.2, hok_shw e0.hok fun c o e => ⟨(hn c o e).1, (hn c o e).2.1⟩, e0.bare⟩
  refine wpAny_call (codeAny_mono (F.run X.A X.stack s _ ⟨us, []⟩ (us ++ ds) (vs ++ dvs) _ _ hr e1 (hb s us I.kIn hl) r2 hsp) fun rr s' hq => ?_)
  rcases rr with er | fl
  · exact hx pins σ H s er s' I (hX.hid _ _ H s E er s' hn hq)
  · cases fl with
    | ret u =>
      obtain ⟨v, H', os, bare, un, ok', rv, hc, q⟩ := hq
      obtain ⟨u1, k1⟩ := un_hid hn un ok' hc
      exact I.after ⟨v, _, os, bare, u1, k1, rv, q⟩
    | next => exact hq.elim
    | brk => exact hq.elim
    | cont => exact hq.elim
theorem pe_callC (hX : CxOk X.prog X.w CX) (F : FnOk X.prog X.w X.K X.mg X.base CX k f fd ps sp) (hr : Room k X.A) (hfn : ∀ y, X.fn y = true) (hg : Gl X x) (hm : X.mg x = some (.ref f)) (hk : PySem.W.keepIn X.K (.ref f) = true) (hb : Binds X.K fd ps ds) (hd : Vals dvs ds) (hx : Passes CX X E) (ha : PA X (e :: es) t)
    (hdb : (x == ("__debug__" : Str)) = false := by decide)
    (he : starEach (e :: es) X.env = (false, eval e X.env) :: starEach es X.env := by rfl) (hpl : (backTo pos (starEach es X.env)).any (·.1) = false := by rfl) : PE X (.Call (.Name x p) (e :: es) [] pos) (tCallC X sp dvs E t) := by
  refine ⟨fun pins s σ H Q I h => ?_⟩
  refine wpAny_Call_Name_kw (ld_glob I hg hm ?_ hdb)
  refine PySem.W.callWith_K (h₀ := X.base) I.ok.mod.kin hk (thn (ha.run pos pins s σ H _ I h) fun us s2 ⟨vs, H2, I2, r, q⟩ => ⟨I2.kIn, ?_⟩) he hpl
  exact run_fnC hX F hr hfn hb hd hx I2 r q
/-- the cells of a function made in this frame, as the frame's cells tell them -/
theorem cap_of {cs : Cs} {scope : Scope} {fr : List Str} {js : List Nat} (c : CapX X σ cs) (hfree : ∀ y ∈ scope.names, y.2 = .free → X.env.scope.names.lookup y.1 = some .cell) (hfr : ∀ y ∈ fr, (y, NameKind.free) ∈ scope.names) (hjs : js.map (fun j => X.N[j]?) = fr.map some) :
    Cap (cloFrom X.env.cells scope.names []) fr (js.map (slotAt σ)) cs := by
  have hf : ∀ y ∈ scope.names, y.2 = .free → ∃ a, X.env.cells.lookup y.1 = some a := fun y hy e => c.ok.has _ (.inl (hfree y hy e))
  have hlen := congrArg List.length hjs
  rw [List.length_map, List.length_map] at hlen
  refine ⟨by rw [List.length_map]; exact hlen, fun a o e => (c.dom a o e).1, fun y a e => c.all y a (clo_cm hf e), fun x y a e1 e2 => c.ok.inj x y a (clo_cm hf e1) (clo_cm hf e2), fun i y e => ?_⟩
  have hy := List.mem_of_getElem? e
  have hk := hfree (y, .free) (hfr y hy) rfl
  obtain ⟨a, ha⟩ := c.ok.has y (.inl hk)
  refine ⟨a, clo_has hf (hfr y hy) ha, fun v ev => ?_⟩
  have e2 : (js.map fun j => X.N[j]?)[i]? = some (some y) := by
    rw [hjs, List.getElem?_map, e]; rfl
  rw [List.getElem?_map] at e2 ev
  cases ej : js[i]? with
  | none => rw [ej] at e2; cases e2
  | some j =>
    rw [ej] at e2 ev
    have hj : X.N[j]? = some y := Option.some.inj (show some (X.N[j]?) = some (some y) from e2)
    have ev2 : σ[j]? = some (some v) := slotAt_some (Option.some.inj (show some (slotAt σ j) = some (some v) from ev))
    obtain ⟨a', u, o, h1, h2, h3, h4⟩ := c.val j y v hj ev2 hk
    rw [ha] at h1; cases h1
    exact ⟨u, o, h2, h3, h4⟩
end
/-! a def whose code object is told -/
structure FunC (K : PySem.W.Frag) (x qual : Str) (st : Stmt) (f : Addr) (fd : FuncData) (c : Addr) : Prop where
  ex : ∃ (oc : Value) (od : Option Addr) (kV doc pm : Value) (an : Option Addr) (ct : Value) (osl : Array (Option Value)),
    fd = PySem.W.fnOf x qual (defArgs st) (defBody st) (defScope st) .none kV doc pm an (.ref c) ct ∧ K.lookup f = some ⟨oc, od, .func fd, osl⟩ ∧ PySem.W.codeIn K (.ref c) qual = true
  kp : PySem.W.keepIn K (.ref f) = true
section
variable {P : Program} {w : World} {K : PySem.W.Frag} {mg : Str → Option Value} {base : Heap} {x qual : Str} {st : Stmt} {f c : Addr} {fd : FuncData} {N ps : List Str} {k : Nat} {sp : Sp}
theorem FunC.fun (F : FunC K x qual st f fd c) : Fun K x qual st f fd := by
  obtain ⟨oc, od, kV, doc, pm, an, ct, osl, e, l, h⟩ := F.ex
  exact ⟨⟨oc, od, kV, doc, pm, an, _, ct, osl, e, l, h⟩, F.kp⟩
theorem FunC.ok (F : FunC K x qual st f fd c) (S : FnScope N ps (defScope st)) (len : ∀ vs H Q E, sp vs H Q E → vs.length = ps.length)
    (hbody : ∀ (A : Around) (outer : List Env) (s : Shared) (H : Hp) (vs : List V) (Q : VK) (E : XK), Room k (A.deeper (envOfC qual (defScope st) s.heap.objs.size f (.ref c))) → sp vs H Q E →
      ∃ t, PSs (cxOf CX0 P w K mg base N qual (defScope st) f (.ref c) A outer s H E).nox (defBody st) t ∧ t { nx := fun _ H' => Q .non H', rt := Q } (start N vs) H) : FnOk P w K mg base CX0 (k + 1) f fd ps sp := by
  obtain ⟨oc, od, kV, doc, pm, an, ct, osl, rfl, lk, hcd⟩ := F.ex
  refine fn_of lk hcd S len fun A outer s H vs Q E hr hsp => ?_
  obtain ⟨t, h, q⟩ := hbody A outer s H vs Q E hr hsp
  exact ⟨t, h.nox, q⟩
theorem FunC.okX (F : FunC K x qual st f fd c) (S : FnScope N ps (defScope st)) (len : ∀ vs H Q E, sp vs H Q E → vs.length = ps.length)
    (hbody : ∀ (A : Around) (outer : List Env) (s : Shared) (H : Hp) (vs : List V) (Q : VK) (E : XK), Room k (A.deeper (envOfC qual (defScope st) s.heap.objs.size f (.ref c))) → sp vs H Q E →
      ∃ t, PSs (cxOf (L2.CX P w) P w K mg base N qual (defScope st) f (.ref c) A outer s H E) (defBody st) t ∧ t { nx := fun _ H' => Q .non H', rt := Q } (start N vs) H) : FnOk P w K mg base (L2.CX P w) (k + 1) f fd ps sp := by
  obtain ⟨oc, od, kV, doc, pm, an, ct, osl, rfl, lk, hcd⟩ := F.ex
  exact fn_of lk hcd S len fun A outer s H vs Q E hr hsp => hbody A outer s H vs Q E hr hsp
theorem funC_mk {oc : Value} {od an : Option Addr} {osl : Array (Option Value)} {kV doc pm ct : Value} (l : K.lookup f = some ⟨oc, od, .func (PySem.W.fnOf x qual (defArgs st) (defBody st) (defScope st) .none kV doc pm an (.ref c) ct), osl⟩)
    (cd : PySem.W.codeIn K (.ref c) qual = true) (k : PySem.W.keepIn K (.ref f) = true) : FunC K x qual st f (PySem.W.fnOf x qual (defArgs st) (defBody st) (defScope st) .none kV doc pm an (.ref c) ct) c := ⟨⟨oc, od, kV, doc, pm, an, ct, osl, rfl, l, cd⟩, k⟩
end
end Vf
set_option Elab.async false
set_option linter.all false
set_option maxRecDepth 100000
set_option maxHeartbeats 4000000
/-! lambdas as values -/
namespace Vf
open PySem L2 PyProof.Rows NdefX LamX
abbrev lamO (F : NF) (e : Expr) (pm ctv : Value) : Obj := PySem.W.kla_obj F.name F.qual F.params e F.scope F.cl pm F.c ctv
/-- the object at f is the lambda with this body -/
def FnL (f : Addr) (F : NF) (e : Expr) : HO := .ext fun h => ∃ (pm ctv : Value), h.get? f = some (lamO F e pm ctv)
theorem fnL_at {P : Program} {w : World} {H : Hp} {h : Heap} {f : Addr} {F : NF} {e : Expr} (ok : HOk P w H h) (q : H f = some (FnL f F e)) : ∃ (pm ctv : Value), h.get? f = some (lamO F e pm ctv) := (ok f _ q).1
structure LOk (P : Program) (w : World) (K : PySem.W.Frag) (mg : Str → Option Value) (base : Heap) (CX : CXT) (k : Nat) (f : Addr) (F : NF) (e : Expr) (ps fr : List Str) (sp : List (Option V) → Sp) : Prop where
  run : ∀ (A : Around) (outer : List Env) (s : Shared) (H : Hp) (us : List Value) (vs : List V) (ws : List (Option V)) (Q : VK) (E : XK), Room k A → Env0 P w K mg base A outer s H → H f = some (FnL f F e) → H F.c = some (CodeO F.c F.qual) →
    CellsAt F.cl fr ws s.heap H → Vals vs us → sp ws vs H Q E → codeAny (model P w) A (.call (.ref f) ⟨us, []⟩) (CR CX outer P w H s Q E) s
structure HeldL (f : Addr) (F : NF) (e : Expr) (cs : Cs) (H : Hp) : Prop where
  fn : H f = some (FnL f F e)
  code : H F.c = some (CodeO F.c F.qual)
  cells : HeldC cs H
section
variable {P : Program} {w : World} {K : PySem.W.Frag} {mg : Str → Option Value} {base : Heap} {CX : CXT} {k : Nat} {f : Addr} {F : NF} {e : Expr} {N ps fr : List Str} {ws : List (Option V)} {cs : Cs} {sp : List (Option V) → Sp}
theorem lok_of (S : NScope N ps fr F.scope) (hb : ∀ (pm ctv : Value) (us : List Value), us.length = ps.length → bindArgs (PySem.W.kla_fn F.name F.qual F.params e F.scope F.cl pm (.ref F.c) ctv) ⟨us, []⟩ = pure (ps.zip us)) (len : ∀ ws vs H Q E, sp ws vs H Q E → vs.length = ps.length)
    (hbody : ∀ (A : Around) (outer : List Env) (s : Shared) (H : Hp) (vs : List V) (ws : List (Option V)) (Q : VK) (E : XK), Room k (A.deeper (envF F f s.heap.objs.size)) → ws.length = fr.length → sp ws vs H Q E →
      ∃ t, PE (ncx CX P w K mg base N F f A outer s H E) e t ∧ t (startF N vs ws) H Q) :
    LOk P w K mg base CX (k + 1) f F e ps fr sp := by
  refine ⟨fun A outer s H us vs ws Q E hr e0 hf hc C r hsp => ?_⟩
  have hl := len _ _ _ _ _ hsp
  have lim : s.heap.NoLimit := e0.mod.nolimit.keeps fun b o eb => (e0.bs b o eb).1
  obtain ⟨pm, ctv, ho⟩ := fnL_at e0.hok hf
  obtain ⟨⟨oc, vc, tc, hoc, hdc, hvc⟩, _, _⟩ := e0.hok _ _ hc
  refine PySem.W.kla_callFunE hr.depth ho rfl S.co S.gen rfl ⟨F.c, oc, vc, tc, rfl, hoc, hdc, hvc⟩ ?_
  have hbu := hb pm ctv us (by rw [← r.length]; exact hl)
  rw [hbu]
  refine wpAny_pure (wpAny_newFunctionEnv S.nocell (fun ⟨n, _⟩ hy => S.par n (List.of_mem_zip hy).1) (fun h₁ hns hsb => ⟨lim.fresh _ hsb, ?_⟩) S.kind)
  show codeAny _ _ (.expr e (envF F f s.heap.objs.size)) _ _
  have keeps : ∀ b o, s.heap.get? b = some o → h₁.get? b = some o := fun b o eb => hsb.extBut b o (Nat.ne_of_lt (Heap.lt_size eb)) (Heap.get?_push_of_some _ eb)
  obtain ⟨t, ht, hq⟩ := hbody A outer s H vs ws Q E (hr.deeper _) C.len hsp
  have I := inv_startN (CX := CX) (P := P) (w := w) (K := K) (mg := mg) (base := base) (f := f) (A := A) (outer := outer) (E := E) (tk := s.toks + (ps.zip us).length) S hr.hd e0 hl r C hns keeps
  refine PySem.W.kla_codeExpr (wpAny_mono (ht.run [] _ (startF N vs ws) H Q I hq) (fun v s' hs => ?_) fun er s' hs => hs)
  obtain ⟨v2, H2, J, rv, q⟩ := hs
  exact ⟨v2, H2, J.os, J.bare, J.base, J.hok, rv, q⟩
theorem fv_of_lok (hX : CxOk P w CX) (o : LOk P w K mg base CX k f F e ps fr sp) (c : Cap F.cl fr ws cs) : FV P w K mg base CX k f (HeldL f F e cs) (spHid cs (sp ws)) := by
  refine ⟨fun H h ki ok q => ?_, fun A outer s H us vs Q E hr e0 q r z => ?_⟩
  · obtain ⟨pm, ctv, ho⟩ := fnL_at ok q.fn
    exact ⟨_, _, _, _, ho⟩
  · have nfs : ∀ c o, cs.lookup c = some o → c ∉ frs outer := fun c o e1 hm => by
      have := e0.frf c hm
      rw [q.cells c o e1] at this; cases this
    have okh := hok_hid e0.hok q.cells
    have e2 : Env0 P w K mg base A outer s (hid cs H) := ⟨e0.frames, e0.mod, fun b o eb => ⟨(e0.bs b o eb).1, by
        cases q2 : cs.lookup b with
        | some y => exact hid_in q2
        | none => rw [hid_out q2]; exact (e0.bs b o eb).2⟩, e0.bsz, e0.funs, fun b hb => by
        cases q2 : cs.lookup b with
        | some y => exact hid_in q2
        | none => rw [hid_out q2]; exact e0.frf b hb, okh, e0.bare⟩
    have of : cs.lookup f = none := by
      cases q2 : cs.lookup f with
      | none => rfl
      | some y =>
        obtain ⟨pm, ctv, ho⟩ := fnL_at e0.hok q.fn
        have h1 := cell_at e0.hok q.cells q2
        obtain ⟨v, hv⟩ := c.cell f y q2
        rw [ho] at h1; cases h1; cases hv
    have oc : cs.lookup F.c = none := by
      cases q2 : cs.lookup F.c with
      | none => rfl
      | some y =>
        obtain ⟨⟨o1, v1, t1, h1, h2, h3⟩, _, _⟩ := e0.hok _ _ q.code
        have h4 := cell_at e0.hok q.cells q2
        obtain ⟨v, hv⟩ := c.cell _ y q2
        rw [h1] at h4; cases h4
        rw [h2] at hv; cases hv
    have C : CellsAt F.cl fr ws s.heap (hid cs H) := ⟨c.len, fun y a ea => by
        obtain ⟨o, ho⟩ := c.all y a ea
        obtain ⟨v, hv⟩ := c.cell a o ho
        exact ⟨hid_in ho, v, o, cell_at e0.hok q.cells ho, hv⟩, c.inj, fun i y ey => by
        obtain ⟨a, ha, hv⟩ := c.has i y ey
        exact ⟨a, ha, fun v ev => by
          obtain ⟨u, o, h1, h2, h3⟩ := hv v ev
          exact ⟨u, h1, o, cell_at e0.hok q.cells h2, h3⟩⟩⟩
    refine codeAny_mono (o.run A outer s (hid cs H) us vs ws _ _ hr e2 (by rw [hid_out of]; exact q.fn) (by rw [hid_out oc]; exact q.code) C r z) fun rr s' hq => ?_
    rcases rr with er | fl
    · exact hX.shw outer cs H s E er s' e0.hok q.cells nfs hq
    · cases fl with
      | next => exact hq
      | brk => exact hq
      | cont => exact hq
      | ret u =>
        obtain ⟨v, H', os, bare, un, ok', rv, q2⟩ := hq
        obtain ⟨u1, k1, k2⟩ := un_shw e0.hok q.cells nfs un ok'
        exact ⟨v, _, os, bare, u1, k1, rv, q2 k2⟩
end
section
variable {X : Cx} {pins : List (Addr × Obj)} {σ : L2.St} {H : Hp} {s : Shared}
theorem inv_fnL {F : NF} {e : Expr} {o : Obj} {t' : Nat} {pm ctv : Value} (I : Inv X pins σ H s) (ho : o = lamO F e pm ctv) :
    Inv X pins σ (upd H s.heap.objs.size (FnL s.heap.objs.size F e)) { s with heap := s.heap.push o, toks := t' } := by
  subst ho
  refine I.laid (a := s.heap.objs.size) (fun b u eb => Heap.get?_push_of_some _ eb) (Nat.le_refl _) ?_
  have e1 : (s.heap.push (lamO F e pm ctv)).get? s.heap.objs.size = some (lamO F e pm ctv) := Heap.get?_push_size _ rfl
  exact ⟨⟨pm, ctv, e1⟩, ⟨_, e1⟩, fun h1 h2 ⟨p, t, z⟩ st => ⟨p, t, st _ z⟩⟩
/-- its code object is new, or stands in the table -/
theorem lam_made {T : List NTab} {nm : Nat → Nat → Str} {c P : Addr} {params : Arguments} {body : Expr} {scope : Scope} {pos : Pos} {E : Value → Shared → Prop} {Q : Value → Shared → Prop} (I : Inv X pins σ H s) (TB : TabB X.base X.mg c P) (hcode : X.env.code = .ref c)
    (hm : (P, nm) ∈ T) (hn : nm pos.line pos.col = X.env.qual ++ "<lambda>") (hu : ∀ p ∈ T, p.1 = P → p.2 = nm) (hT : TabsN T H) (hdef : defaultsOf params X.env = ([], [])) (hfree : ∀ y ∈ scope.names, y.2 = .free → ∃ c, X.env.cells.lookup y.1 = some c)
    (h : ∀ (f c' : Addr) (H1 : Hp) (s' : Shared), Inv X pins σ H1 s' → ExtN H H1 → (∀ b, H1 b = none → H b = none) → TabsN T H1 → H f = none → H1 f = some (FnL f ⟨"<lambda>", X.env.qual ++ "<lambda>", params, [], scope, cloFrom X.env.cells scope.names [], c'⟩ body) → H1 c' = some (CodeO c' (X.env.qual ++ "<lambda>")) → Q (.ref f) s') :
    wpAny (model X.prog X.w) X.A (eval (.Lambda params body scope pos) X.env) Q E s := by
  obtain ⟨ps, hP, ht, ha⟩ := (show TabN H P nm from hT _ hm)
  have bP : s.heap.BuiltinsAt X.mg P := TB.bm.keeps I.bk
  have hP' : s.heap.get? P = some { cls := .none, data := .fields ps } := I.hok P _ hP
  refine PySem.W.kla_eval hdef ?_
  cases hc : codeAmong pos ps.toList with
  | none =>
    refine PySem.W.kla_makeFunction (mg := X.mg) (c := c) (P := P) (ps := ps) (closure_ok hfree) I.ok.glob (I.mod.glob.keeps I.bk) hcode (TB.code.keeps I.bk) hP' ht hc TB.gP bP fun c' ctv h' tk hx hge hlt hrec htb => ?_
    obtain ⟨c2, oc, vs, t, e2, hoc, hd, hv⟩ := hrec
    cases e2
    have nC : H c' = none := I.hok.fresh hge
    have I1 := inv_table (t' := tk) (more := #[rawInt pos.line, rawInt pos.col, .ref c']) (h' := h') I hP (fun b o hb e => hx b o hb e) htb hge ⟨oc, vs, t, hoc, hd, hv⟩
    generalize eH1 : upd (upd H P (.tbl (ps ++ #[rawInt pos.line, rawInt pos.col, .ref c']))) c' (CodeO c' (X.env.qual ++ "<lambda>")) = H1
    have hE : ExtN H H1 := fun b o e n => by
      have n1 : b ≠ P := fun z => n ps (Option.some.inj (e.symm.trans (by rw [z]; exact hP)))
      rw [← eH1, upd_ne (ne_of_none e nC), upd_ne n1]
      exact e
    have T1 : TabsN T H1 := fun p hp => by
      by_cases hb : p.1 = P
      · have e3 : p.2 = nm := hu p hp hb
        rw [e3, hb]
        refine ⟨ps ++ #[rawInt pos.line, rawInt pos.col, .ref c'], by rw [← eH1, upd_ne (ne_of_none hP nC), upd_same], ?_, fun p' cv hcv => ?_⟩
        · rw [Array.toList_append]
          exact PySem.TriplesOk_snoc _ _ _ _ ht
        · rw [Array.toList_append] at hcv
          rcases among_app2 _ ht hcv with z | ⟨z, z1, z2⟩
          · obtain ⟨c0, e1, e2⟩ := ha p' cv z
            exact ⟨c0, e1, hE _ _ e2 codeO_ne⟩
          · refine ⟨c', z, ?_⟩
            rw [← z1, ← z2, hn, ← eH1]
            exact upd_same
      · obtain ⟨ps', a1, a2, a3⟩ := hT p hp
        refine ⟨ps', by rw [← eH1, upd_ne (ne_of_none a1 nC), upd_ne hb]; exact a1, a2, fun p' cv hcv => ?_⟩
        obtain ⟨c0, e1, e2⟩ := a3 p' cv hcv
        exact ⟨c0, e1, hE _ _ e2 codeO_ne⟩
    have cH1 : H1 c' = some (CodeO c' (X.env.qual ++ "<lambda>")) := by rw [← eH1]; exact upd_same
    have back : ∀ b, H1 b = none → H b = none := fun b e => by
      rw [← eH1] at e
      exact upd_none (upd_none e)
    rw [eH1] at I1
    have nF := I1.hok.fresh (Nat.le_refl _)
    have I2 := inv_fnL (F := ⟨"<lambda>", X.env.qual ++ "<lambda>", params, [], scope, cloFrom X.env.cells scope.names [], c'⟩) (e := body) (t' := tk) (pm := (X.mg "__name__").getD .none) (ctv := ctv) I1 rfl
    refine h h'.objs.size c' _ _ I2 (fun b o e n => ?_) (fun b e => back b (upd_none e)) (T1.ext fun b o e => ?_) (I.hok.fresh (Nat.le_trans hge (Nat.le_of_lt hlt))) upd_same ?_
    · exact (upd_ne (ne_of_none (hE b o e n) nF)).trans (hE b o e n)
    · exact (upd_ne (ne_of_none e nF)).trans e
    · exact (upd_ne (Nat.ne_of_lt hlt)).trans cH1
  | some cv =>
    obtain ⟨c', e, hco⟩ := ha pos cv hc
    subst e
    rw [hn] at hco
    refine PySem.W.kla_makeFunctionHit (mg := X.mg) (c := c) (P := P) (ps := ps) (closure_ok hfree) I.ok.glob (I.mod.glob.keeps I.bk) hcode (TB.code.keeps I.bk) hP' ht hc bP fun ctv h' tk hx hsz => ?_
    have I1 : Inv X pins σ H { s with heap := h', toks := tk } := I.kept hx
    have nF : H h'.objs.size = none := I1.hok.fresh (Nat.le_refl _)
    have I2 := inv_fnL (F := ⟨"<lambda>", X.env.qual ++ "<lambda>", params, [], scope, cloFrom X.env.cells scope.names [], c'⟩) (e := body) (t' := tk) (pm := (X.mg "__name__").getD .none) (ctv := ctv) I1 rfl
    refine h h'.objs.size c' _ _ I2 (fun b o e n => ?_) (fun b e => upd_none e) (hT.ext fun b o e => ?_) nF upd_same ?_
    · exact (upd_ne (ne_of_none e nF)).trans e
    · exact (upd_ne (ne_of_none e nF)).trans e
    · exact (upd_ne (ne_of_none hco nF)).trans hco
end
/-- the reading of a lambda's making -/
def tLamV (T : List NTab) (mk : Addr → NF) (body : Expr) : TE := fun σ H Q => TabsN T H ∧ ∀ (f c' : Addr) (H1 : Hp), ExtN H H1 → (∀ b, H1 b = none → H b = none) → TabsN T H1 → H f = none → H1 f = some (FnL f (mk c') body) → H1 c' = some (CodeO c' (mk c').qual) → Q (.ref f) H1
theorem pe_lamV {X : Cx} {T : List NTab} {nm : Nat → Nat → Str} {c P : Addr} {params : Arguments} {body : Expr} {scope : Scope} {pos : Pos} (TB : TabB X.base X.mg c P) (hcode : X.env.code = .ref c) (hm : (P, nm) ∈ T) (hn : nm pos.line pos.col = X.env.qual ++ "<lambda>") (hu : ∀ p ∈ T, p.1 = P → p.2 = nm)
    (hdef : defaultsOf params X.env = ([], [])) (hfree : ∀ y ∈ scope.names, y.2 = .free → X.env.scope.names.lookup y.1 = some .cell ∨ X.env.scope.names.lookup y.1 = some .free) :
    PE X (.Lambda params body scope pos) (tLamV T (fun c' => ⟨"<lambda>", X.env.qual ++ "<lambda>", params, [], scope, cloFrom X.env.cells scope.names [], c'⟩) body) := by
  refine ⟨fun pins s σ H Q I h => ?_⟩
  obtain ⟨hT, h⟩ := h
  have hfr : ∀ y ∈ scope.names, y.2 = .free → ∃ c, X.env.cells.lookup y.1 = some c := fun y hy e => (hfree y hy e).elim (fun z => I.ok.has _ (.inl z)) fun z => I.ok.has _ (.inr z)
  exact lam_made I TB hcode hm hn hu hT hdef hfr fun f c' H1 s' I1 eN back T1 f0 f1 c1 => ⟨.ref f, H1, I1, rfl, h f c' H1 eN back T1 f0 f1 c1⟩
end Vf
set_option Elab.async false
set_option linter.all false
set_option maxRecDepth 100000
set_option maxHeartbeats 4000000
/-! machines explored: the mirror, keys, dicts of numbers -/
namespace Vf
open PySem L2 PyProof.Rows NdefX LamX
section
variable {κ : Type} [DecidableEq κ]
/-- the number of a key among those found -/
def num (ks : List κ) (k : κ) : Nat := ks.idxOf k
/-- one letter: the key behind is added where it is new -/
def add1 (ks : List κ) (k : κ) : List κ := if k ∈ ks then ks else ks ++ [k]
/-- a row: state (keys, row) over the letters -/
def rowOf (st : κ → Nat → κ) (m : κ) : List Nat → List κ × List Nat → List κ × List Nat
  | [], p => p
  | c :: cs, (ks, row) => rowOf st m cs (add1 ks (st m c), row ++ [num (add1 ks (st m c)) (st m c)])
/-- one turn of the exploring -/
def turn (st : κ → Nat → κ) (L : List Nat) (p : List κ × List (List Nat)) : List κ × List (List Nat) :=
  match p.1[p.2.length]? with
  | none => p
  | some m => ((rowOf st m L (p.1, [])).1, p.2 ++ [(rowOf st m L (p.1, [])).2])
def turns (st : κ → Nat → κ) (L : List Nat) (s0 : κ) : Nat → List κ × List (List Nat)
  | 0 => ([s0], [])
  | n + 1 => turn st L (turns st L s0 n)
theorem add1_mem {ks : List κ} {k : κ} : k ∈ add1 ks k := by
  unfold add1
  split
  · assumption
  · simp
theorem add1_sub {ks : List κ} {k x : κ} (h : x ∈ ks) : x ∈ add1 ks k := by
  unfold add1
  split
  · exact h
  · simp [h]
theorem add1_pre (ks : List κ) (k : κ) : ks <+: add1 ks k := by
  unfold add1
  split
  · exact List.prefix_refl _
  · exact List.prefix_append _ _
theorem add1_nodup {ks : List κ} {k : κ} (h : ks.Nodup) : (add1 ks k).Nodup := by
  unfold add1
  split
  · exact h
  · rename_i hn
    exact List.nodup_append.mpr ⟨h, by simp, fun a ha b hb e => by simp at hb; subst hb; subst e; exact hn ha⟩
theorem add1_len (ks : List κ) (k : κ) : (add1 ks k).length ≤ ks.length + 1 := by
  unfold add1
  split
  · omega
  · simp
theorem rowOf_pre (st : κ → Nat → κ) (m : κ) : ∀ (L : List Nat) (p : List κ × List Nat), p.1 <+: (rowOf st m L p).1
  | [], p => List.prefix_refl _
  | c :: cs, (ks, row) => (add1_pre ks (st m c)).trans (rowOf_pre st m cs (add1 ks (st m c), row ++ [num (add1 ks (st m c)) (st m c)]))
theorem rowOf_nodup (st : κ → Nat → κ) (m : κ) : ∀ (L : List Nat) (p : List κ × List Nat), p.1.Nodup → (rowOf st m L p).1.Nodup
  | [], p, h => h
  | c :: cs, (ks, row), h => rowOf_nodup st m cs _ (add1_nodup h)
theorem rowOf_len (st : κ → Nat → κ) (m : κ) : ∀ (L : List Nat) (p : List κ × List Nat), (rowOf st m L p).1.length ≤ p.1.length + L.length
  | [], p => Nat.le_refl _
  | c :: cs, (ks, row) => by
    have h1 := rowOf_len st m cs (add1 ks (st m c), row ++ [num (add1 ks (st m c)) (st m c)])
    have h2 := add1_len ks (st m c)
    show (rowOf st m cs (add1 ks (st m c), row ++ [num (add1 ks (st m c)) (st m c)])).1.length ≤ ks.length + (cs.length + 1)
    dsimp only at h1
    omega
theorem rowOf_row (st : κ → Nat → κ) (m : κ) : ∀ (L : List Nat) (p : List κ × List Nat), (rowOf st m L p).2.length = p.2.length + L.length
  | [], p => rfl
  | c :: cs, (ks, row) => by
    have h1 := rowOf_row st m cs (add1 ks (st m c), row ++ [num (add1 ks (st m c)) (st m c)])
    show (rowOf st m cs (add1 ks (st m c), row ++ [num (add1 ks (st m c)) (st m c)])).2.length = row.length + (cs.length + 1)
    rw [h1, List.length_append]
    show row.length + 1 + cs.length = row.length + (cs.length + 1)
    omega
theorem rowOf_append (st : κ → Nat → κ) (m : κ) : ∀ (L L' : List Nat) (p : List κ × List Nat), rowOf st m (L ++ L') p = rowOf st m L' (rowOf st m L p)
  | [], L', p => rfl
  | c :: cs, L', (ks, row) => rowOf_append st m cs L' _
theorem turn_pre (st : κ → Nat → κ) (L : List Nat) (p : List κ × List (List Nat)) : p.1 <+: (turn st L p).1 := by
  unfold turn
  split
  · exact List.prefix_refl _
  · exact rowOf_pre st _ L (p.1, [])
theorem turns_pre (st : κ → Nat → κ) (L : List Nat) (s0 : κ) : ∀ {i n : Nat}, i ≤ n → (turns st L s0 i).1 <+: (turns st L s0 n).1
  | i, 0, h => by
    have : i = 0 := by omega
    subst this
    exact List.prefix_refl _
  | i, n + 1, h => by
    by_cases e : i = n + 1
    · subst e; exact List.prefix_refl _
    · exact (turns_pre st L s0 (by omega : i ≤ n)).trans (turn_pre st L _)
theorem turns_len (st : κ → Nat → κ) (L : List Nat) (s0 : κ) {i n : Nat} (h : i ≤ n) : (turns st L s0 i).1.length ≤ (turns st L s0 n).1.length := (turns_pre st L s0 h).length_le
theorem turns_nodup (st : κ → Nat → κ) (L : List Nat) (s0 : κ) : ∀ n, (turns st L s0 n).1.Nodup
  | 0 => by simp [turns]
  | n + 1 => by
    show (turn st L (turns st L s0 n)).1.Nodup
    unfold turn
    split
    · exact turns_nodup st L s0 n
    · exact rowOf_nodup st _ L (_, []) (turns_nodup st L s0 n)
theorem turns_rows_le (st : κ → Nat → κ) (L : List Nat) (s0 : κ) : ∀ n, (turns st L s0 n).2.length ≤ (turns st L s0 n).1.length
  | 0 => by simp [turns]
  | n + 1 => by
    show (turn st L (turns st L s0 n)).2.length ≤ (turn st L (turns st L s0 n)).1.length
    unfold turn
    split
    · exact turns_rows_le st L s0 n
    · rename_i m hm
      have h1 := (List.getElem?_eq_some_iff.mp hm).1
      have h2 := (rowOf_pre st m L ((turns st L s0 n).1, [])).length_le
      rw [List.length_append]
      dsimp only at h2 ⊢
      rw [List.length_singleton]
      omega
/-- once as many rows as keys stand, nothing changes -/
theorem turn_stays (st : κ → Nat → κ) (L : List Nat) {p : List κ × List (List Nat)} (h : p.1.length ≤ p.2.length) : turn st L p = p := by
  unfold turn
  rw [List.getElem?_eq_none h]
theorem turns_stay (st : κ → Nat → κ) (L : List Nat) (s0 : κ) {i : Nat} (h : (turns st L s0 i).1.length ≤ (turns st L s0 i).2.length) : ∀ n, i ≤ n → turns st L s0 n = turns st L s0 i
  | 0, hn => by
    have : i = 0 := by omega
    subst this; rfl
  | n + 1, hn => by
    by_cases e : i = n + 1
    · subst e; rfl
    · have ih := turns_stay st L s0 h n (by omega)
      show turn st L (turns st L s0 n) = _
      rw [ih]
      exact turn_stays st L h
/-- while not all keys have a row, each turn adds one -/
theorem turns_rows (st : κ → Nat → κ) (L : List Nat) (s0 : κ) : ∀ {n : Nat}, (∀ i < n, (turns st L s0 i).2.length < (turns st L s0 i).1.length) → (turns st L s0 n).2.length = n
  | 0, _ => rfl
  | n + 1, h => by
    have ih := turns_rows st L s0 (n := n) fun i hi => h i (by omega)
    have hl := h n (by omega)
    show (turn st L (turns st L s0 n)).2.length = n + 1
    unfold turn
    rw [List.getElem?_eq_getElem hl]
    dsimp only
    rw [List.length_append, List.length_singleton, ih]
/-- what all is found, if no more than most keys come -/
theorem turns_done (st : κ → Nat → κ) (L : List Nat) (s0 : κ) {most : Nat} (h : (turns st L s0 most).1.length ≤ most) : (turns st L s0 most).2.length = (turns st L s0 most).1.length := by
  by_cases q : ∀ i < most, (turns st L s0 i).2.length < (turns st L s0 i).1.length
  · have h1 := turns_rows st L s0 q
    have h2 := turns_rows_le st L s0 most
    omega
  · simp only [Nat.not_lt, Classical.not_forall] at q
    obtain ⟨i, hi, hq⟩ := q
    have e := turns_stay st L s0 hq most (by omega)
    rw [e]
    have h2 := turns_rows_le st L s0 i
    omega
theorem num_lt {ks : List κ} {k : κ} (h : k ∈ ks) : num ks k < ks.length := List.idxOf_lt_length_iff.mpr h
theorem rowOf_all (st : κ → Nat → κ) (m : κ) : ∀ (L : List Nat) (p : List κ × List Nat), (∀ x ∈ p.2, x < p.1.length) → ∀ x ∈ (rowOf st m L p).2, x < (rowOf st m L p).1.length
  | [], p, h => h
  | c :: cs, (ks, row), h => rowOf_all st m cs (add1 ks (st m c), row ++ [num (add1 ks (st m c)) (st m c)]) fun x hx => by
    rcases List.mem_append.mp hx with q | q
    · exact Nat.lt_of_lt_of_le (h x q) (add1_pre ks (st m c)).length_le
    · rw [List.mem_singleton.mp q]
      exact num_lt add1_mem
theorem turns_all (st : κ → Nat → κ) (L : List Nat) (s0 : κ) : ∀ n, ∀ row ∈ (turns st L s0 n).2, row.length = L.length ∧ ∀ x ∈ row, x < (turns st L s0 n).1.length
  | 0, row, h => nomatch h
  | n + 1, row, h => by
    have ih := turns_all st L s0 n
    have hp := (turns_pre st L s0 (Nat.le_succ n)).length_le
    revert h hp
    show row ∈ (turn st L (turns st L s0 n)).2 → (turns st L s0 n).1.length ≤ (turn st L (turns st L s0 n)).1.length → row.length = L.length ∧ ∀ x ∈ row, x < (turn st L (turns st L s0 n)).1.length
    unfold turn
    split
    · intro h _
      exact ih row h
    · rename_i m hm
      intro h hp
      rcases List.mem_append.mp h with q | q
      · exact ⟨(ih row q).1, fun x hx => Nat.lt_of_lt_of_le ((ih row q).2 x hx) hp⟩
      · rw [List.mem_singleton.mp q]
        refine ⟨by rw [rowOf_row]; simp, rowOf_all st m L _ (fun x hx => nomatch hx)⟩
theorem rowOf_dm (st : κ → Nat → κ) {Dm : κ → Prop} {m : κ} (hm : Dm m) : ∀ (L : List Nat) (_ : ∀ k c, Dm k → c ∈ L → Dm (st k c)) (p : List κ × List Nat), (∀ k ∈ p.1, Dm k) → ∀ k ∈ (rowOf st m L p).1, Dm k
  | [], _, p, h => h
  | c :: cs, hD, (ks, row), h => rowOf_dm st hm cs (fun k d hk hd => hD k d hk (List.mem_cons_of_mem _ hd)) (add1 ks (st m c), row ++ [num (add1 ks (st m c)) (st m c)]) fun k hk => by
    have hk : k ∈ add1 ks (st m c) := hk
    unfold add1 at hk
    split at hk
    · exact h k hk
    · rcases List.mem_append.mp hk with q | q
      · exact h k q
      · rw [List.mem_singleton.mp q]; exact hD m c hm List.mem_cons_self
theorem turns_dm (st : κ → Nat → κ) (L : List Nat) (s0 : κ) {Dm : κ → Prop} (h0 : Dm s0) (hD : ∀ k c, Dm k → c ∈ L → Dm (st k c)) : ∀ n, ∀ k ∈ (turns st L s0 n).1, Dm k
  | 0, k, h => by rw [List.mem_singleton.mp h]; exact h0
  | n + 1, k, h => by
    have ih := turns_dm st L s0 h0 hD n
    revert h
    show k ∈ (turn st L (turns st L s0 n)).1 → Dm k
    unfold turn
    split
    · exact ih k
    · rename_i m hm
      exact rowOf_dm st (ih m (List.mem_of_getElem? hm)) L hD (_, []) ih k
/-! dicts from keys to their numbers -/
def nums (ks : List κ) : List (κ × V) := ks.zipIdx.map fun p => (p.1, V.int (p.2 : Int))
theorem nums_len (ks : List κ) : (nums ks).length = ks.length := by simp [nums]
theorem nums_snoc (ks : List κ) (k : κ) : nums (ks ++ [k]) = nums ks ++ [(k, V.int (ks.length : Int))] := by
  simp [nums, List.zipIdx_append]
theorem valV_append (k : κ) : ∀ (a b : List (κ × V)), valV (a ++ b) k = (valV a k).orElse fun _ => valV b k
  | [], b => rfl
  | p :: a, b => by
    by_cases e : p.1 = k
    · rw [List.cons_append, valV_pos e, valV_pos e]; rfl
    · rw [List.cons_append, valV_neg e, valV_neg e]; exact valV_append k a b
theorem valV_numsAt {k : κ} : ∀ (ks : List κ) (n : Nat), valV ((ks.zipIdx n).map fun p => (p.1, V.int (p.2 : Int))) k = if k ∈ ks then some (V.int ((n + ks.idxOf k : Nat) : Int)) else none
  | [], _ => rfl
  | x :: ks, n => by
    rw [List.zipIdx_cons, List.map_cons]
    by_cases e : x = k
    · subst e
      rw [valV_pos rfl, if_pos (by simp), List.idxOf_cons_self]
      rfl
    · have ex : ¬ k = x := fun z => e z.symm
      rw [valV_neg e, valV_numsAt ks (n + 1)]
      by_cases h : k ∈ ks
      · have e2 : (x :: ks).idxOf k = ks.idxOf k + 1 := by rw [List.idxOf_cons, beq_false_of_ne e]; rfl
        rw [if_pos h, if_pos (by simp [h]), e2]
        congr 2
        omega
      · rw [if_neg h, if_neg (by simp [h, ex])]
theorem valV_nums {k : κ} {ks : List κ} : valV (nums ks) k = if k ∈ ks then some (V.int (num ks k : Nat)) else none := by
  have := valV_numsAt (k := k) ks 0
  rw [Nat.zero_add] at this
  exact this
theorem putK_nums {ks : List κ} {k : κ} (h : k ∉ ks) : putK (nums ks) k (V.int (ks.length : Int)) = nums (ks ++ [k]) := by
  rw [nums_snoc, putK_new]
  rw [valV_nums, if_neg h]
end
/-! {k: v}, one pair, the key a tuple -/
def tDispT (tk tv : TE) : TE := fun σ H Q => ∀ p, H p = none → tPairs [(tk, tv)] σ (L2.upd H p (.dT [])) fun ps H2 => H2 p = some (.dT []) ∧
  ∃ (x : List Key) (b : Addr) (v : V), ps = [(.ref b, v)] ∧ H2 b = some (.tup (x.map kV)) ∧ Q (.ref p) (L2.upd H2 p (.dT [(x, v)]))
theorem Raised.aft {H H1 H' : Hp} {d : Addr} {f : Str} {v : V} (s : Same H H1) (r : Raised H1 H' d f v) : Raised H H' d f v := ⟨s.free r.1, r.2.1, s.trans r.2.2⟩
/-! kinds of keys: ints and texts; tuples of them -/
structure Kd (κ : Type) [DecidableEq κ] where
  at_ : Hp → V → κ → Prop
  dic : List (κ × V) → HO
  get : ∀ {H : Hp} {a : Addr} {v : V} {k : κ} {kvs : List (κ × V)}, H a = some (dic kvs) → at_ H v k → DGet H a v (valV kvs k)
  put : ∀ {H : Hp} {a : Addr} {v x : V} {k : κ} {kvs : List (κ × V)}, H a = some (dic kvs) → at_ H v k → kvs.length < sizeLine → DPut H a v x (L2.upd H a (dic (putK kvs k x)))
  isd : ∀ {H : Hp} {a : Addr} {kvs : List (κ × V)}, H a = some (dic kvs) → IsD H a
  keep : ∀ {H H' : Hp} {v : V} {k : κ}, at_ H v k → (∀ b xs, H b = some (.tup xs) → H' b = some (.tup xs)) → at_ H' v k
  some_ : ∀ {H : Hp} {v : V} {k : κ}, at_ H v k → v ≠ .non
  disp : ∀ {σ : L2.St} {H : Hp} {i : Nat} {Q : VK} {v : V} {k : κ} {n : Int}, σ[i]? = some (some v) → at_ H v k → (∀ p, H p = none → Q (.ref p) (L2.upd H p (dic [(k, .int n)]))) →
    tDisp [(tVar i, tC (.int n))] σ H Q ∨ tDispT (tVar i) (tC (.int n)) σ H Q
  notLst : ∀ kvs xs, dic kvs ≠ .lst xs
  notTup : ∀ kvs xs, dic kvs ≠ .tup xs
  notExt : ∀ kvs φ, dic kvs ≠ .ext φ
def kdK : Kd Key where
  at_ := fun _ v k => v = kV k
  dic := .dK
  get := fun e h => by rw [h]; exact DGet.k e
  put := fun e h l => by rw [h]; exact DPut.k e l
  isd := fun e => .inl ⟨_, .inl e⟩
  keep := fun h _ => h
  some_ := fun {H v k} h => by rw [h]; cases k <;> exact fun z => nomatch z
  disp := fun {σ H i Q v k n} e h q => .inl fun p hp => ⟨v, e, upd_same, [(k, .int n)], by rw [h]; rfl, by show 1 ≤ 15; omega, by rw [upd_upd]; exact q p hp⟩
  notLst := fun _ _ z => nomatch z
  notTup := fun _ _ z => nomatch z
  notExt := fun _ _ z => nomatch z
def kdT : Kd (List Key) where
  at_ := fun H v k => ∃ b, v = .ref b ∧ H b = some (.tup (k.map kV))
  dic := .dT
  get := fun e ⟨b, h1, h2⟩ => by rw [h1]; exact DGet.t e h2
  put := fun e ⟨b, h1, h2⟩ l => by rw [h1]; exact DPut.t e h2 l
  isd := fun e => .inr ⟨_, .inl e⟩
  keep := fun ⟨b, h1, h2⟩ k => ⟨b, h1, k _ _ h2⟩
  some_ := fun ⟨b, h1, _⟩ => by rw [h1]; exact fun z => nomatch z
  disp := fun {σ H i Q v k n} e ⟨b, h1, h2⟩ q => .inr fun p hp => ⟨v, e, upd_same, k, b, .int n, by rw [h1], by rw [upd_ne (ne_of_none h2 hp)]; exact h2, by rw [upd_upd]; exact q p hp⟩
  notLst := fun _ _ z => nomatch z
  notTup := fun _ _ z => nomatch z
  notExt := fun _ _ z => nomatch z
section
variable {X : Cx}
theorem pe_or {e : Expr} {t u : TE} (h : PE X e t) (g : PE X e u) : PE X e (fun σ H Q => t σ H Q ∨ u σ H Q) :=
  ⟨fun pins s σ H Q I q => q.elim (h.run pins s σ H Q I) (g.run pins s σ H Q I)⟩
theorem pe_dispT {k v : Expr} {tk tv : TE} {pos : Pos} (hu : X.A.units + 1 < cLine) (hk : PE X k tk) (hv : PE X v tv) : PE X (.Dict [some k] [v] pos) (tDispT tk tv) := by
  refine ⟨fun pins s σ H Q I q => ?_⟩
  have hn := I.hok.fresh (Nat.le_refl s.heap.objs.size)
  have I1 := I.laid (a := s.heap.objs.size) (o := .dT []) (h' := s.heap.push { cls := .type "dict", data := .dict #[] }) (t' := s.toks) (fun _ _ q => Heap.get?_push_of_some _ q) (Nat.le_refl _) (dt_empty s.heap I.big)
  have hp := pps_cons (pos := pos) hk hv (pps_nil (X := X) (pos := pos))
  have hall : ([some k] : List (Option Expr)).all (·.isSome) = true := rfl
  have h0 : pairTrees [some k] [v] X.env pos ≠ [] := fun e => by
    have := pairTrees_length [some k] [v] X.env pos hall rfl
    rw [e] at this
    cases this
  have h15 : (pairTrees [some k] [v] X.env pos).length ≤ 15 := by
    rw [pairTrees_length [some k] [v] X.env pos hall rfl]
    show 1 ≤ 15
    omega
  have hz := zip_pairTrees [some k] [v] X.env pos hall rfl
  rw [PySem.arm_eval_Dict, hz, PySem.dictDisplay_pairs _ h0 (by omega)]
  refine wpAny_bind (wpAny_standAt (wpAny_bind (PySem.wpAny_subDictH (knd := tupleKind (mixKind X.prog X.w)) (show X.A.units < cLine by omega) h15 (thn (hp.run pins _ σ _ _ I1 (q _ hn)) ?_))))
  rintro ws s2 ⟨ps, H2, I2, rel, e, x, b, vx, rfl, eb, q2⟩
  cases rel with
  | @cons _ pq _ _ r0 r1 =>
    cases r1
    obtain ⟨ku, vu⟩ := pq
    obtain ⟨rk, rv⟩ := r0
    have ek : ku = Value.ref b := rk
    subst ek
    obtain ⟨z, hd, xs0, r0, dd⟩ := dt_of I2.hok e
    cases r0
    refine ⟨[(x, b, vu)], ⟨rfl, rfl, key_of I2.hok eb, trivial⟩, dd, fun h' tk' dd' hs => wpAny_pure ⟨.ref s.heap.objs.size, _, ?_, rfl, q2⟩⟩
    obtain ⟨o, es, ep, ho, h2, h3, h4, h5, h6⟩ := dd'
    have nb : b ≠ s.heap.objs.size := ne_of eb e (fun z => nomatch z)
    have new : ObjOk X.prog X.w (L2.upd H2 s.heap.objs.size (.dT [(x, vx)])) h' s.heap.objs.size (.dT [(x, vx)]) := by
      refine ⟨by rw [sizeLine_eq]; show 1 ≤ _; decide, hd, [(x, b, vu)], .cons ⟨rfl, ?_, rv⟩ .nil, o, es, ep, ho, h2, h3, h4, h6⟩
      show L2.upd H2 s.heap.objs.size (.dT [(x, vx)]) b = some (.tup (x.map kV))
      rw [upd_ne nb]
      exact eb
    exact d_write I2 (by rw [e]; exact True.intro) hs ⟨o, ho⟩ new
end
end Vf
set_option Elab.async false
set_option linter.all false
set_option maxRecDepth 100000
set_option maxHeartbeats 4000000
/-! zip of two: lists, tuples, texts in any mix -/
namespace Vf
open PySem L2 PyProof.Rows
inductive Sr where
  | l (a : Addr) | t (a : Addr) | s (z : Str)
def Sr.v : Sr → V
  | .l a => .ref a
  | .t a => .ref a
  | .s z => .str z
def Sr.at_ : Sr → Option Addr
  | .l a => some a
  | .t a => some a
  | .s _ => none
def SrI (K : PySem.W.Frag) (H : Hp) : Sr → List V → Prop
  | .l a, xs => SqL K H a xs
  | .t a, xs => SqT K H a xs
  | .s z, xs => xs = (TL.tl z).map fun c => V.str (sg c)
def SrSt : Sr → Tok → Addr → Nat → Heap → Prop
  | .l a, _, it, i, h => h.IsListIter it a i
  | .t a, _, it, i, h => h.IsTupleIter it a i
  | .s z, t, it, i, h => h.IsStrIter it (strIterType z) z t i
theorem SrI.same {K : PySem.W.Frag} {H H' : Hp} {r : Sr} {xs : List V} (s : Same H H') (h : SrI K H r xs) : SrI K H' r xs := by
  cases r with
  | l a => exact s.seq h
  | t a =>
    have h : SqT K H a xs := h
    rcases h with (h | ⟨o, h⟩) | h
    · exact .inl (.inl (s _ _ h))
    · exact .inl (.inr ⟨o, s _ _ h⟩)
    · exact .inr h
  | s z => exact h
theorem srSt_obj {r : Sr} {t : Tok} {it : Addr} {i : Nat} {h : Heap} (st : SrSt r t it i h) : ∃ o, h.get? it = some o ∧ ∀ v, o.data ≠ .cell v := by
  cases r with
  | l a => obtain ⟨o, e, _, d⟩ := st; exact ⟨o, e, fun v q => by rw [d] at q; cases q⟩
  | t a => obtain ⟨o, e, _, d⟩ := st; exact ⟨o, e, fun v q => by rw [d] at q; cases q⟩
  | s z => obtain ⟨o, e, _, d⟩ := st; exact ⟨o, e, fun v q => by rw [d] at q; cases q⟩
theorem srSt_keep {r : Sr} {t : Tok} {it : Addr} {i : Nat} {h h' : Heap} (st : SrSt r t it i h) (k : ∀ o, h.get? it = some o → h'.get? it = some o) : SrSt r t it i h' := by
  cases r with
  | l a => exact Heap.IsListIter.at st k
  | t a => obtain ⟨o, e, q⟩ := st; exact ⟨o, k o e, q⟩
  | s z => obtain ⟨o, e, q⟩ := st; exact ⟨o, k o e, q⟩
/-- what one draws of it -/
structure Dr (X : Cx) (r : Sr) (t : Tok) (it : Addr) (i : Nat) (xs : List V) (s : Shared) (n : Nat) (P : Nat → Value → Prop) (St : Nat → Heap → Prop) (fp : List Addr) : Prop where
  d : Draws X.prog X.w X.A.in1 it fp n P St
  st : St i s.heap
  n_ : n = xs.length
  p_ : ∀ j v, P j v → ∃ x, xs[j]? = some x ∧ RelV x v
  nx : ∀ h', St (i + 1) h' → SrSt r t it (i + 1) h'
  fp_ : ∀ b ∈ fp, b = it ∨ r.at_ = some b
  mem : it ∈ fp
theorem sr_draw {X : Cx} {pins : List (Addr × Obj)} {σ : L2.St} {H : Hp} {s : Shared} {r : Sr} {t : Tok} {it : Addr} {i : Nat} {xs : List V} (I : Inv X pins σ H s) (hh : X.A.handled = none) (e : SrI X.K H r xs) (st : SrSt r t it i s.heap) (na : ∀ a, r.at_ = some a → a ≠ it) :
    ∃ n P St fp, Dr X r t it i xs s n P St fp := by
  cases r with
  | l a =>
    obtain ⟨its, rv, p, _⟩ := I.list e
    refine ⟨_, _, _, _, ⟨Draws.list (prog := X.prog) (w := X.w) (A := X.A.in1) hh it a (na a rfl) its.toArray, ⟨st, p.isList⟩, by simpa using rv.length.symm, fun j v hv => ?_, fun h' q => q.1, fun b hb => ?_, by simp⟩⟩
    · have hv : its[j]? = some v := by simpa using hv
      have hj : j < xs.length := by
        have := (List.getElem?_eq_some_iff.mp hv).1
        rw [rv.length]; exact this
      obtain ⟨u, hu, ru⟩ := rv.get (List.getElem?_eq_getElem hj)
      rw [hv] at hu; cases hu
      exact ⟨_, List.getElem?_eq_getElem hj, ru⟩
    · simp at hb
      rcases hb with z | z
      · exact .inl z
      · exact .inr (by rw [z]; rfl)
  | t a =>
    obtain ⟨its, rv, p, _⟩ := I.tuple e
    refine ⟨_, _, _, _, ⟨Draws.tuple (prog := X.prog) (w := X.w) (A := X.A.in1) hh it a (na a rfl) its.toArray, ⟨st, p⟩, by simpa using rv.length.symm, fun j v hv => ?_, fun h' q => q.1, fun b hb => ?_, by simp⟩⟩
    · have hv : its[j]? = some v := by simpa using hv
      have hj : j < xs.length := by
        have := (List.getElem?_eq_some_iff.mp hv).1
        rw [rv.length]; exact this
      obtain ⟨u, hu, ru⟩ := rv.get (List.getElem?_eq_getElem hj)
      rw [hv] at hu; cases hu
      exact ⟨_, List.getElem?_eq_getElem hj, ru⟩
    · simp at hb
      rcases hb with z | z
      · exact .inl z
      · exact .inr (by rw [z]; rfl)
  | s z =>
    have e : xs = (TL.tl z).map fun c => V.str (sg c) := e
    refine ⟨_, _, _, _, ⟨Draws.text (prog := X.prog) (w := X.w) (A := X.A.in1) hh it z t, st, by rw [e, List.length_map]; exact TL.len_tl z, fun j v hv => ?_, fun h' q => q, fun b hb => ?_, by simp⟩⟩
    · obtain ⟨c, u, h1, rfl⟩ := hv
      refine ⟨.str (sg c), ?_, ⟨u, rfl⟩⟩
      have h2 : (TL.tl z)[j]? = some c := by simpa using h1
      rw [e, List.getElem?_map, h2]
      rfl
    · simp at hb
      exact .inl hb
theorem sr_inj {X : Cx} {pins : List (Addr × Obj)} {σ : L2.St} {H : Hp} {s : Shared} {r : Sr} {xs ys : List V} (I : Inv X pins σ H s) (e : SrI X.K H r xs) (e2 : SrI X.K H r ys) : xs = ys := by
  cases r with
  | l a => exact I.list_inj e e2
  | t a => exact I.tuple_inj e e2
  | s z => exact Eq.trans e (Eq.symm e2)
def Itzz (K : PySem.W.Frag) (a b : Sr) : It :=
  ⟨fun i H => ∃ xs ys, SrI K H a xs ∧ SrI K H b ys ∧ i < xs.length ∧ i < ys.length,
   fun i H v H' => ∃ T x y, v = .ref T ∧ H T = none ∧ H' = L2.upd H T (.tup [x, y]) ∧ (∀ xs, SrI K H a xs → xs[i]? = some x) ∧ (∀ ys, SrI K H b ys → ys[i]? = some y),
   fun i H => ∃ xs ys, SrI K H a xs ∧ SrI K H b ys ∧ i ≤ xs.length ∧ i ≤ ys.length ∧ (i = xs.length ∨ i = ys.length)⟩
/-- the five cells of a zip, and the two sources, apart -/
structure ZA (z TI TO i1 i2 : Addr) (a b : Sr) : Prop where
  n1 : TI ≠ z
  n2 : TO ≠ z
  n3 : TI ≠ TO
  n4 : TI ≠ i1
  n5 : TI ≠ i2
  n6 : z ≠ i1
  n7 : z ≠ i2
  n8 : TO ≠ i1
  n9 : TO ≠ i2
  n10 : i1 ≠ i2
  a_ : ∀ c, a.at_ = some c → c ≠ z ∧ c ≠ TO ∧ c ≠ i1 ∧ c ≠ i2
  b_ : ∀ c, b.at_ = some c → c ≠ z ∧ c ≠ TO ∧ c ≠ i1 ∧ c ≠ i2
theorem ZA.sep {z TI TO i1 i2 : Addr} {a b : Sr} {fp1 fp2 : List Addr} (D : ZA z TI TO i1 i2 a b) (h1 : ∀ c ∈ fp1, c = i1 ∨ a.at_ = some c) (m1 : i1 ∈ fp1) (h2 : ∀ c ∈ fp2, c = i2 ∨ b.at_ = some c) (m2 : i2 ∈ fp2) : ZipSep2 z TI TO i1 i2 fp1 fp2 := by
  refine ⟨D.n1, D.n2, D.n3, D.n4, m1, fun h => ?_, fun h => ?_, D.n5, m2, fun h => ?_, fun h => ?_, fun h => ?_, fun h => ?_⟩
  · exact (h1 _ h).elim D.n6 fun e => (D.a_ _ e).1 rfl
  · exact (h1 _ h).elim D.n8 fun e => (D.a_ _ e).2.1 rfl
  · exact (h2 _ h).elim D.n7 fun e => (D.b_ _ e).1 rfl
  · exact (h2 _ h).elim D.n9 fun e => (D.b_ _ e).2.1 rfl
  · exact (h2 _ h).elim D.n10 fun e => (D.b_ _ e).2.2.1 rfl
  · exact (h1 _ h).elim (fun q => D.n10 q.symm) fun e => (D.a_ _ e).2.2.2 rfl
theorem turn_zz {P : Program} {w : World} {K : PySem.W.Frag} {elts : List Expr} {kk : Nat} {tpos : Pos} {a b : Sr} {t1 t2 : Tok} {z TI TO i1 i2 : Addr} (D : ZA z TI TO i1 i2 a b) :
    Turn P w K (.Tuple elts kk tpos) (Itzz K a b) [z, TI, TO, i1, i2] z (fun i h => IsZip h z TI TO .none ∧ IsTupOf2 h TI (.ref i1) (.ref i2) ∧ (∃ x y, IsTupOf2 h TO x y) ∧ SrSt a t1 i1 i h ∧ SrSt b t2 i2 i h) where
  mem := by simp
  obj := fun i h st c hc => by
    obtain ⟨hz, hTI, ⟨x, y, hTO⟩, s1, s2⟩ := st
    obtain ⟨o1, e1, d1⟩ := srSt_obj s1
    obtain ⟨o2, e2, d2⟩ := srSt_obj s2
    have e' : c = z ∨ c = TI ∨ c = TO ∨ c = i1 ∨ c = i2 := by simpa using hc
    rcases e' with rfl | rfl | rfl | rfl | rfl
    · exact ⟨_, hz, fun v q => nomatch q⟩
    · exact ⟨_, hTI, fun v q => nomatch q⟩
    · exact ⟨_, hTO, fun v q => nomatch q⟩
    · exact ⟨o1, e1, d1⟩
    · exact ⟨o2, e2, d2⟩
  keep := fun i h h' st k => by
    obtain ⟨hz, hTI, ⟨x, y, hTO⟩, s1, s2⟩ := st
    exact ⟨k z (by simp) _ hz, k TI (by simp) _ hTI, ⟨x, y, k TO (by simp) _ hTO⟩, srSt_keep s1 fun o q => k i1 (by simp) o q, srSt_keep s2 fun o q => k i2 (by simp) o q⟩
  item := by
    intro X hP hw hK hc i pins s σ H E I hf st hg
    subst hP hw hK
    obtain ⟨hz, hTI, ⟨x0, y0, hTO⟩, s1, s2⟩ := st
    obtain ⟨xs, ys, ea, eb, l1, l2⟩ := hg
    have hh := I.ok.hd hc
    obtain ⟨n1, P1, St1, fp1, D1⟩ := sr_draw (t := t1) I hh ea s1 fun c e => (D.a_ c e).2.2.1
    obtain ⟨n2, P2, St2, fp2, D2⟩ := sr_draw (t := t2) I hh eb s2 fun c e => (D.b_ c e).2.2.2
    have hzl : z < s.heap.objs.size := Heap.lt_size hz
    refine wpAny_pyNext_zipD2_item (D.sep D1.fp_ D1.mem D2.fp_ D2.mem) D1.d D2.d hz hTI hTO D1.st D2.st (by rw [D1.n_]; exact l1) (by rw [D2.n_]; exact l2) fun u u2 h' tk p1 p2 z' TO' h1' h2' hT hsz hk => ?_
    obtain ⟨x, hx, ru⟩ := D1.p_ _ _ p1
    obtain ⟨y, hy, ru2⟩ := D2.p_ _ _ p2
    refine ⟨_, rfl, wpAny_letOwnedTupleGo_zip (s := { s with heap := h', toks := tk }) z' fun h'' z'' sb => ?_⟩
    have hT2 : h''.get? s.heap.objs.size = some { cls := .type "tuple", data := .seq #[u, u2] } := (sb.2 _ (Nat.ne_of_gt hzl)).trans hT
    have new : ObjOk X.prog X.w (L2.upd H s.heap.objs.size (.tup [x, y])) h'' s.heap.objs.size (.tup [x, y]) :=
      ⟨by show 2 ≤ sizeLine; decide, [u, u2], .cons ru (.cons ru2 .nil), ⟨_, hT2, rfl, _, rfl⟩⟩
    have I1 : Inv X pins σ (L2.upd H s.heap.objs.size (.tup [x, y])) { s with heap := h'', toks := tk } :=
      I.turnedNew (t' := tk) (ch := [z, TI, TO, i1, i2]) (fun c o hb q => (sb.2 c (fun q' => hb (by simp [q']))).trans (hk c o (fun q' => hb (by simp [q'])) (fun q' => hb (by simp [q'])) (fun q' => hb (by simp [q'])) (fun q' => hb (by simp [q'])) q)) hf (Nat.le_refl _) new
    have kTI : h'.get? TI = some { cls := .type "tuple", data := .seq #[.ref i1, .ref i2] } := hk _ _ D.n1 D.n3 D.n4 D.n5 hTI
    refine ⟨.ref s.heap.objs.size, _, I1, rfl, ⟨_, x, y, rfl, I.hok.fresh (Nat.le_refl _), rfl, fun l hl => by rw [sr_inj I hl ea]; exact hx, fun l hl => by rw [sr_inj I hl eb]; exact hy⟩, ⟨z'', (sb.2 _ D.n1).trans kTI, ⟨u, u2, (sb.2 _ D.n2).trans TO'⟩, srSt_keep (D1.nx _ h1') fun o q => (sb.2 _ D.n6.symm).trans q, srSt_keep (D2.nx _ h2') fun o q => (sb.2 _ D.n7.symm).trans q⟩, fun c hcm => ?_⟩
    obtain ⟨o1, e1, _⟩ := srSt_obj s1
    obtain ⟨o2, e2, _⟩ := srSt_obj s2
    have hlt : c < s.heap.objs.size := by
      have e' : c = z ∨ c = TI ∨ c = TO ∨ c = i1 ∨ c = i2 := by simpa using hcm
      rcases e' with rfl | rfl | rfl | rfl | rfl
      · exact hzl
      · exact Heap.lt_size hTI
      · exact Heap.lt_size hTO
      · exact Heap.lt_size e1
      · exact Heap.lt_size e2
    rw [upd_ne (Nat.ne_of_lt hlt)]
    exact (hf c hcm).1
  done := by
    intro X hP hw hK hc i pins s σ H E I hf st hg
    subst hP hw hK
    obtain ⟨hz, hTI, ⟨x0, y0, hTO⟩, s1, s2⟩ := st
    obtain ⟨xs, ys, ea, eb, l1, l2, hend⟩ := hg
    have hh := I.ok.hd hc
    obtain ⟨n1, P1, St1, fp1, D1⟩ := sr_draw (t := t1) I hh ea s1 fun c e => (D.a_ c e).2.2.1
    obtain ⟨n2, P2, St2, fp2, D2⟩ := sr_draw (t := t2) I hh eb s2 fun c e => (D.b_ c e).2.2.2
    refine wpAny_pyNext_zipD2_end (D.sep D1.fp_ D1.mem D2.fp_ D2.mem) D1.d D2.d hz hTI hTO D1.st D2.st (by rw [D1.n_]; exact l1) (by rw [D2.n_]; exact l2) (by rw [D1.n_, D2.n_]; exact hend) fun h' tk hk => ⟨rfl, ?_⟩
    exact I.turnedL (t' := tk) (ch := [z, TI, TO, i1, i2]) (fun c o hb q => hk c o (fun q' => hb (by simp [q'])) (fun q' => hb (by simp [q'])) (fun q' => hb (by simp [q'])) (fun q' => hb (by simp [q'])) q) hf
  self := fun A i s Q E st h => wpAny_pyIter_zip st.1 h
def iZz (K : PySem.W.Frag) (ta : TA) : TI := fun σ H R => ta σ H fun vs H1 => ∃ a b xs ys, vs = [a.v, b.v] ∧ SrI K H1 a xs ∧ SrI K H1 b ys ∧ R (Itzz K a b) H1
theorem sr_begin {X : Cx} {pins : List (Addr × Obj)} {σ : L2.St} {H : Hp} {s : Shared} {r : Sr} {xs : List V} {u : Value} (I : Inv X pins σ H s) (e : SrI X.K H r xs) (ru : RelV r.v u) :
    ∃ (o : Obj) (Hq : Heap → Prop) (t : Tok), Begins u o Hq ∧ Hq s.heap ∧ (∀ it h, h.get? it = some o → SrSt r t it 0 h) ∧ ∀ a, r.at_ = some a → a < s.heap.objs.size := by
  cases r with
  | l a =>
    obtain ⟨its, rv, p, _⟩ := I.list e
    obtain rfl : u = Value.ref a := ru
    refine ⟨_, _, 0, begins_list a its.toArray, p.isList, fun it h q => ⟨_, q, rfl, rfl⟩, fun b hb => ?_⟩
    cases hb
    exact p.lt
  | t a =>
    obtain ⟨its, rv, p, _⟩ := I.tuple e
    obtain rfl : u = Value.ref a := ru
    refine ⟨_, _, 0, begins_tuple a its.toArray, p, fun it h q => ⟨_, q, rfl, rfl⟩, fun b hb => ?_⟩
    cases hb
    exact p.lt
  | s z =>
    obtain ⟨t, rfl⟩ := ru
    exact ⟨_, _, t, begins_text z t, trivial, fun it h q => ⟨_, q, rfl, rfl⟩, fun b hb => nomatch hb⟩
theorem pi_zz {X : Cx} {e e2 : Expr} {ta : TA} {p pos tpos : Pos} {elts : List Expr} {kk : Nat} (hg : Gl X "zip") (hm : X.mg "zip" = none) (ha : PA X [e, e2] ta)
    (hs : starEach [e, e2] X.env = (false, eval e X.env) :: starEach [e2] X.env := by rfl) (hpl : (backTo pos (starEach [e2] X.env)).any (·.1) = false := by rfl) :
    PI X (.Tuple elts kk tpos) (.Call (.Name "zip" p) [e, e2] [] pos) (iZz X.K ta) := by
  refine ⟨fun pins s σ H R I h => ?_⟩
  refine Call_ (ld_blt I hg hm PyProof.Rows.boot_zip (PyProof.Rows.callWith_type1 (thn (ha.run pos pins s σ H _ I h) fun us s1 ⟨vs, H1, I1, r1, q1⟩ => ?_) hs hpl))
  obtain ⟨a, b, xs, ys, ex, ea, eb, q⟩ := q1
  subst ex
  cases r1 with
  | @cons _ u _ _ r rr =>
    cases rr with
    | @cons _ u2 _ _ r' rr =>
      cases rr
      obtain ⟨o1, H1q, t1, B1, h1, k1, la⟩ := sr_begin I1 ea r
      obtain ⟨o2, H2q, t2, B2, h2, k2, lb⟩ := sr_begin I1 eb r'
      refine zip_begins2 B1 B2 h1 h2 fun h' hz hTI hTO g1 g2 hsz hk => wpAny_pyIter_zip hz ?_
      have I2 : Inv X pins σ H1 { s1 with heap := h' } := I1.kept (t' := s1.toks) hk
      generalize hN : s1.heap.objs.size = N at *
      have D : ZA (N + 4) (N + 2) (N + 3) N (N + 1) a b := ⟨by simp, by simp, by simp, by simp, by simp, by simp, by simp, by simp, by simp, by simp,
        fun c e => by have := la c e; exact ⟨by intro z; subst z; exact absurd this (by simp), by intro z; subst z; exact absurd this (by simp), by intro z; subst z; exact absurd this (by simp), by intro z; subst z; exact absurd this (by simp)⟩,
        fun c e => by have := lb c e; exact ⟨by intro z; subst z; exact absurd this (by simp), by intro z; subst z; exact absurd this (by simp), by intro z; subst z; exact absurd this (by simp), by intro z; subst z; exact absurd this (by simp)⟩⟩
      refine ⟨N + 4, [N + 4, N + 2, N + 3, N, N + 1], _, _, H1, rfl, I2, turn_zz (t1 := t1) (t2 := t2) D, ⟨hz, hTI, ⟨_, _, hTO⟩, k1 _ _ g1, k2 _ _ g2⟩, fun c hcm => ?_, q⟩
      have hle : s1.heap.objs.size ≤ c := by
        rw [hN]
        have e' : c = N + 4 ∨ c = N + 2 ∨ c = N + 3 ∨ c = N ∨ c = N + 1 := by simpa using hcm
        rcases e' with rfl | rfl | rfl | rfl | rfl <;> simp
      exact I1.fpOk hle (I1.hok.fresh hle)
/-- as a walk: both stand still -/
theorem walk_zz {K : PySem.W.Frag} {a b : Sr} {xs ys : List V} {n : Nat} (hn : n = min xs.length ys.length) :
    Walk (Itzz K a b) n (fun H => SrI K H a xs ∧ SrI K H b ys) (fun i H v H' => ∃ T x y, v = .ref T ∧ H T = none ∧ H' = L2.upd H T (.tup [x, y]) ∧ xs[i]? = some x ∧ ys[i]? = some y) :=
  ⟨fun i H hi g => ⟨xs, ys, g.1, g.2, by omega, by omega⟩, fun H g => ⟨xs, ys, g.1, g.2, by omega, by omega, by omega⟩, fun i H v H' hi g y => by
    obtain ⟨T, x, y, e1, e2, e3, h1, h2⟩ := y
    exact ⟨T, x, y, e1, e2, e3, h1 _ g.1, h2 _ g.2⟩⟩
end Vf
set_option Elab.async false
set_option linter.all false
set_option maxRecDepth 100000
set_option maxHeartbeats 4000000
/-! what stays where functions are made and cells are shown -/
namespace Vf
open PySem L2 PyProof.Rows NdefX LamX
theorem same_shw {cs : Cs} {H : Hp} (hn : ∀ c o, cs.lookup c = some o → H c = none) : Same H (shw cs H) := fun b u e => by
  cases q : cs.lookup b with
  | some y => rw [hn b y q] at e; cases e
  | none => rw [shw_out q]; exact e
theorem same_hid {cs : Cs} {H1 H2 : Hp} (hn : ∀ c o, cs.lookup c = some o → H1 c = none) (s : Same (shw cs H1) H2) : Same H1 (hid cs H2) := fun b u e => by
  cases q : cs.lookup b with
  | some y => rw [hn b y q] at e; cases e
  | none =>
    rw [hid_out q]
    exact s b u (by rw [shw_out q]; exact e)
theorem held_same {cs : Cs} {H1 H2 : Hp} (s : Same (shw cs H1) H2) : HeldC cs H2 := fun c o e => s _ _ (shw_in e)
theorem same_up {cs : Cs} {H H' : Hp} (hc : HeldC cs H) (s : Same (hid cs H) H') : Same H (shw cs H') := fun b u e => by
  cases q : cs.lookup b with
  | some y =>
    rw [hc b y q] at e
    rw [shw_in q]; exact e
  | none =>
    rw [shw_out q]
    exact s b u (by rw [hid_out q]; exact e)
/-- what is no cell is not hidden -/
theorem hid_keep {cs : Cs} {H : Hp} {b : Addr} {u : HO} (hc : HeldC cs H) (e : H b = some u) (n : ∀ φ, u ≠ .ext φ) : hid cs H b = some u := by
  rw [hid_out (hc.out e fun x z => n _ z)]; exact e
theorem shw_keep {cs : Cs} {H : Hp} {b : Addr} {u : HO} (hn : ∀ c o, cs.lookup c = some o → H c = none) (e : H b = some u) : shw cs H b = some u := same_shw hn _ _ e
theorem hid_shw {cs : Cs} {H : Hp} (hn : ∀ c o, cs.lookup c = some o → H c = none) : hid cs (shw cs H) = H := by
  funext b
  cases q : cs.lookup b with
  | some y => rw [hid_in q, hn b y q]
  | none => rw [hid_out q, shw_out q]
/-- it stays true where all stays but tables -/
def Stab (S : Hp → Prop) : Prop := ∀ H H' : Hp, S H → ExtN H H' → S H'
theorem Stab.same {S : Hp → Prop} (h : Stab S) {H H' : Hp} (s : Same H H') (q : S H) : S H' := h H H' q (ExtN.of fun b o e => s b o e)
theorem Stab.and {S S' : Hp → Prop} (h : Stab S) (h' : Stab S') : Stab fun H => S H ∧ S' H := fun H H' q k => ⟨h H H' q.1 k, h' H H' q.2 k⟩
theorem Stab.hid {S : Hp → Prop} (h : Stab S) (cs : Cs) : Stab fun H => S (Vf.hid cs H) := fun H H' q k => h _ _ q fun b o e n => by
  obtain ⟨q1, q2⟩ := hid_some e
  rw [hid_out q1]; exact k b o q2 n
theorem stab_heldF (f : Addr) (F : NF) (cs : Cs) : Stab (HeldF f F cs) := fun H H' q k => ⟨k _ _ q.fn (fun _ z => nomatch z), k _ _ q.code (fun _ z => nomatch z), fun c o e => k _ _ (q.cells c o e) (fun _ z => nomatch z)⟩
theorem stab_heldL (f : Addr) (F : NF) (e : Expr) (cs : Cs) : Stab (HeldL f F e cs) := fun H H' q k => ⟨k _ _ q.fn (fun _ z => nomatch z), k _ _ q.code (fun _ z => nomatch z), fun c o e => k _ _ (q.cells c o e) (fun _ z => nomatch z)⟩
theorem stab_true : Stab fun _ => True := fun _ _ _ _ => trivial
theorem stab_at (a : Addr) (o : HO) (n : ∀ ps, o ≠ .tbl ps) : Stab fun H => H a = some o := fun H H' q k => k a o q n
/-- all stays but the tables of code objects, and these stay tables -/
structure SameT (T : List NTab) (H H' : Hp) : Prop where
  ext : ExtN H H'
  back : ∀ b, H' b = none → H b = none
  tab : TabsN T H'
theorem SameT.of {T : List NTab} {H H' : Hp} (s : Same H H') (t : TabsN T H) : SameT T H H' := ⟨fun b o e _ => s b o e, fun b e => s.free e, t.ext fun b o e => s b o e⟩
theorem SameT.trans {T : List NTab} {H H1 H2 : Hp} (a : SameT T H H1) (b : SameT T H1 H2) : SameT T H H2 := ⟨a.ext.trans b.ext, fun c e => a.back c (b.back c e), b.tab⟩
theorem SameT.stab {T : List NTab} {H H' : Hp} {S : Hp → Prop} (s : SameT T H H') (h : Stab S) (q : S H) : S H' := h H H' q s.ext
theorem SameT.at_ {T : List NTab} {H H' : Hp} {κ : Type} [DecidableEq κ] {kd : Kd κ} {v : V} {k : κ} (s : SameT T H H') (h : kd.at_ H v k) : kd.at_ H' v k := kd.keep h fun b xs e => s.ext _ _ e fun _ z => nomatch z
theorem SameT.kl {T : List NTab} {H H' : Hp} (s : SameT T H H') : Kl H H' := fun b o e d => s.ext b o e fun ps z => by rw [z] at d; exact d
theorem kd_hid {κ : Type} [DecidableEq κ] {kd : Kd κ} {cs : Cs} {H : Hp} {v : V} {k : κ} (hc : HeldC cs H) (h : kd.at_ H v k) : kd.at_ (hid cs H) v k := kd.keep h fun b xs e => hid_keep hc e fun _ z => nomatch z
theorem kd_shw {κ : Type} [DecidableEq κ] {kd : Kd κ} {cs : Cs} {H : Hp} {v : V} {k : κ} (hn : ∀ c o, cs.lookup c = some o → H c = none) (h : kd.at_ H v k) : kd.at_ (shw cs H) v k := kd.keep h fun b xs e => shw_keep hn e
/-- a cell is no code object -/
theorem cellX_code {c : Addr} {o : Obj} {q : Str} {v : Option Value} (hd : o.data = .cell v) : CellX c o ≠ CodeO c q := fun z => by
  unfold CellX CodeO at z
  have z2 := HO.ext.inj z
  have e : ({ objs := Array.replicate (c + 1) o } : Heap).get? c = some o := by
    unfold Heap.get?
    have : (Array.replicate (c + 1) o)[c]? = some o := by simp
    rw [this]
    obtain ⟨a, b, d, sl⟩ := o
    have hd : d = .cell v := hd
    subst hd
    rfl
  have h1 := congrFun z2 ({ objs := Array.replicate (c + 1) o } : Heap)
  have h2 : ∃ (oc : Obj) (vs : Array Value) (t : Tok), ({ objs := Array.replicate (c + 1) o } : Heap).get? c = some oc ∧ oc.data = .fields vs ∧ vs[1]? = some (.str q t) := by
    rw [← h1]; exact e
  obtain ⟨oc, vs, t, a1, a2, a3⟩ := h2
  rw [e] at a1
  cases a1
  rw [hd] at a2
  cases a2
def CellsData (cs : Cs) : Prop := ∀ c o, cs.lookup c = some o → ∃ v, o.data = .cell v
theorem CapX.data {X : Cx} {σ : L2.St} {cs : Cs} (h : CapX X σ cs) : CellsData cs := fun c o e => (h.dom c o e).1
theorem tabs_hid {T : List NTab} {cs : Cs} {H : Hp} (hd : CellsData cs) (hc : HeldC cs H) (t : TabsN T H) : TabsN T (hid cs H) := fun p hp => by
  obtain ⟨ps, h1, h2, h3⟩ := t p hp
  refine ⟨ps, hid_keep hc h1 (fun _ z => nomatch z), h2, fun pos cv e => ?_⟩
  obtain ⟨c, e1, e2⟩ := h3 pos cv e
  refine ⟨c, e1, ?_⟩
  cases q : cs.lookup c with
  | none => rw [hid_out q]; exact e2
  | some o =>
    obtain ⟨v, hv⟩ := hd c o q
    rw [hc c o q] at e2
    exact absurd (Option.some.inj e2) (cellX_code hv)
theorem sameT_hid {T : List NTab} {cs : Cs} {H1 H2 : Hp} (hd : CellsData cs) (hn : ∀ c o, cs.lookup c = some o → H1 c = none) (s : SameT T (shw cs H1) H2) : HeldC cs H2 ∧ SameT T H1 (hid cs H2) := by
  have hh : HeldC cs H2 := fun c o e => s.ext _ _ (shw_in e) fun _ z => nomatch z
  refine ⟨hh, fun b u e n => ?_, fun b e => ?_, tabs_hid hd hh s.tab⟩
  · cases q : cs.lookup b with
    | some y => rw [hn b y q] at e; cases e
    | none =>
      rw [hid_out q]
      exact s.ext b u (by rw [shw_out q]; exact e) n
  · cases q : cs.lookup b with
    | some y => exact hn b y q
    | none =>
      rw [hid_out q] at e
      have := s.back b e
      rw [shw_out q] at this
      exact this
theorem kl_hid {cs : Cs} {H : Hp} (hc : HeldC cs H) : Kl H (hid cs H) := fun b o e d => hid_keep hc e fun φ z => by rw [z] at d; exact d
/-- all that the nested one captures are cells of the def -/
def cellsB (sc nsc : Scope) : Bool := nsc.names.all fun y => !decide (y.2 = .free) || decide (sc.names.lookup y.1 = some .cell)
theorem cells_free {sc nsc : Scope} (h : cellsB sc nsc = true) : ∀ y ∈ nsc.names, y.2 = .free → sc.names.lookup y.1 = some .cell := fun y hy e => by
  have := List.all_eq_true.mp h y hy
  rw [e] at this
  simpa using this
theorem tup_hid {cs : Cs} {H : Hp} {b : Addr} {xs : List V} (hc : HeldC cs H) (e : H b = some (.tup xs)) : hid cs H b = some (.tup xs) := hid_keep hc e fun _ z => nomatch z
theorem lst_hid {cs : Cs} {H : Hp} {b : Addr} {xs : List V} (hc : HeldC cs H) (e : H b = some (.lst xs)) : hid cs H b = some (.lst xs) := hid_keep hc e fun _ z => nomatch z
def Forall2 {α β : Type} (R : α → β → Prop) (xs : List α) (ys : List β) : Prop := xs.length = ys.length ∧ ∀ (i : Nat) (x : α) (y : β), xs[i]? = some x → ys[i]? = some y → R x y
theorem Forall2.snoc {α β : Type} {R : α → β → Prop} {xs : List α} {ys : List β} {x : α} {y : β} (h : Forall2 R xs ys) (g : R x y) : Forall2 R (xs ++ [x]) (ys ++ [y]) := by
  obtain ⟨h1, h2⟩ := h
  refine ⟨by simp [h1], fun i a b e1 e2 => ?_⟩
  by_cases hi : i < xs.length
  · rw [List.getElem?_append_left hi] at e1
    rw [List.getElem?_append_left (by omega)] at e2
    exact h2 i a b e1 e2
  · rw [List.getElem?_append_right (by omega)] at e1
    rw [List.getElem?_append_right (by omega)] at e2
    have : i - xs.length = 0 := by
      cases q : i - xs.length with
      | zero => rfl
      | succ n => rw [q] at e1; cases e1
    rw [this] at e1
    have h3 : i - ys.length = 0 := by omega
    rw [h3] at e2
    cases e1; cases e2
    exact g
theorem Forall2.imp {α β : Type} {R S : α → β → Prop} {xs : List α} {ys : List β} (h : Forall2 R xs ys) (g : ∀ x y, x ∈ xs → R x y → S x y) : Forall2 S xs ys := ⟨h.1, fun i x y e1 e2 => g x y (List.mem_of_getElem? e1) (h.2 i x y e1 e2)⟩
theorem Forall2.get {α β : Type} {R : α → β → Prop} {xs : List α} {ys : List β} (h : Forall2 R xs ys) {i : Nat} {y : β} (e : ys[i]? = some y) : ∃ x, xs[i]? = some x ∧ R x y := by
  have hi : i < xs.length := by rw [h.1]; exact (List.getElem?_eq_some_iff.mp e).1
  exact ⟨_, List.getElem?_eq_getElem hi, h.2 i _ y (List.getElem?_eq_getElem hi) e⟩
end Vf
set_option Elab.async false
set_option linter.all false
set_option maxRecDepth 100000
set_option maxHeartbeats 4000000
/-! walks of a column over a code's rows -/
namespace Vf
open PySem L2 PyProof.Rows
theorem take_more {α : Type} {l : List α} {i : Nat} (h : i < l.length) : l.take (i + 1) = l.take i ++ [l[i]] := by
  rw [List.take_add_one, List.getElem?_eq_getElem h]; rfl
/-- what a column leaves: the state and the bits, by the rows -/
def stepR (rs : List Row) (z : List Nat) (s : Int × Int) (c : Nat) : Int × Int :=
  let gb := ((rs.getD s.1.toNat []).getD (z.idxOf c) (0, 0))
  (gb.1, s.2 + gb.2)
def walkR (rs : List Row) (z : List Nat) (s : Int) (y : List Nat) : Int × Int := y.foldl (stepR rs z) (s, 0)
theorem walkR_more {rs : List Row} {z y : List Nat} {s : Int} {i : Nat} (h : i < y.length) : walkR rs z s (y.take (i + 1)) = stepR rs z (walkR rs z s (y.take i)) y[i] := by
  unfold walkR
  rw [take_more h, List.foldl_append]
  rfl
/-- states stay states, bits grow -/
structure GoodS (m : Nat) (rs : List Row) : Prop where
  row : ∀ r ∈ rs, r.length = m ∧ ∀ gb ∈ r, 0 ≤ gb.1 ∧ gb.1 < rs.length
theorem Good.s {m : Nat} {rs : List Row} {es : List Int} (g : Good m rs es) : GoodS m rs := ⟨fun r hr => ⟨(g.row r hr).1, fun gb h => ⟨((g.row r hr).2 gb h).1, ((g.row r hr).2 gb h).2.1⟩⟩⟩
theorem at_row {m : Nat} {rs : List Row} (g : GoodS m rs) {s : Int} {j : Nat} (h0 : 0 ≤ s) (h1 : s < rs.length) (hj : j < m) :
    ∃ (h : s.toNat < rs.length) (h' : j < rs[s.toNat].length), (rs.getD s.toNat []).getD j (0, 0) = rs[s.toNat][j] ∧ 0 ≤ (rs[s.toNat][j]).1 ∧ (rs[s.toNat][j]).1 < rs.length := by
  have h : s.toNat < rs.length := by omega
  have hr := g.row rs[s.toNat] (List.getElem_mem h)
  have h' : j < rs[s.toNat].length := by rw [hr.1]; exact hj
  refine ⟨h, h', ?_, hr.2 _ (List.getElem_mem h')⟩
  rw [List.getD_eq_getElem?_getD, List.getD_eq_getElem?_getD, List.getElem?_eq_getElem h, Option.getD_some, List.getElem?_eq_getElem h', Option.getD_some]
theorem idx_lt {z : List Nat} {c : Nat} (h : c ∈ z) : z.idxOf c < z.length := List.idxOf_lt_length_iff.mpr h
theorem walkR_ok {m : Nat} {rs : List Row} {z y : List Nat} {s : Int} (g : GoodS m rs) (hz : z.length = m) (h0 : 0 ≤ s) (h1 : s < rs.length) (hy : ∀ c ∈ y, c ∈ z) : ∀ i, i ≤ y.length → 0 ≤ (walkR rs z s (y.take i)).1 ∧ (walkR rs z s (y.take i)).1 < rs.length
  | 0, _ => by rw [List.take_zero]; exact ⟨h0, h1⟩
  | i + 1, hi => by
    have ih := walkR_ok (y := y) g hz h0 h1 hy i (by omega)
    have hi' : i < y.length := by omega
    rw [walkR_more hi']
    have hc : z.idxOf y[i] < m := by rw [← hz]; exact idx_lt (hy _ (List.getElem_mem hi'))
    obtain ⟨h, h', e, a, b⟩ := at_row g ih.1 ih.2 hc
    unfold stepR
    simp only [e]
    exact ⟨a, b⟩
/-- a column's length, by the rows and the ends -/
def lenR (rs : List Row) (es : List Int) (z : List Nat) (y : List Nat) : Int := (walkR rs z 0 y).2 + es.getD (walkR rs z 0 y).1.toNat 0
end Vf
set_option Elab.async false
set_option linter.all false
set_option maxRecDepth 100000
set_option maxHeartbeats 4000000
namespace Vf
open PySem L2 PyProof.Rows
section
variable {P : Program} {w : World} {K : PySem.W.Frag} {mg : Str → Option Value} {base : Heap}
structure TxtN (K : PySem.W.Frag) (mg : Str → Option Value) : Prop where
  enumerate : mg "enumerate" = none
/-- the first place of a sign of y that is none of z's -/
def strange (z y : Str) : Option Nat := (TL.tl y).findIdx? fun c => decide (c ∉ TL.tl z)
def spStrange : Sp := fun vs H Q _ => ∃ z y : Str, vs = [.str z, .str y] ∧ ∀ H', Same H H' → Q (match strange z y with | none => .non | some i => .int i) H'
abbrev s_strange_place : Stmt := top 7
abbrev N_strange_place : List Str := ["letters", "text", "place", "letter"]
abbrev P_strange_place : List Str := ["letters", "text"]
theorem sc_strange_place : FnScope N_strange_place P_strange_place (defScope s_strange_place) := ⟨rfl, rfl, rfl, by decide +kernel, rfl, by decide +kernel, by decide +kernel⟩

theorem ok_strange {f : Addr} {fd : FuncData} (F : Fun K "strange_place" "strange_place" s_strange_place f fd) (T : TxtN K mg) : FnOk P w K mg base CX0 1 f fd P_strange_place spStrange := by
  refine F.ok sc_strange_place (fun vs H Q E h => ?_) (fun cdv A outer s H vs Q E hr h => ?_)
  · obtain ⟨z, y, rfl, _⟩ := h
    rfl
  · obtain ⟨z, y, rfl, k⟩ := h
    refine ⟨_, (pss_cons (ps_for PassesOwn.never rfl (pi_enumS (by rfl) T.enumerate (pa_cons (pv 1) pa_nil)) (pg_tup (by rfl) (pgs_cons (pg_name (i := 2) sc_strange_place.nd rfl (Or.inl rfl)) (pgs_cons (pg_name (i := 3) sc_strange_place.nd rfl (Or.inl rfl)) pgs_nil))) (pss_one (ps_if (pt_cmpR op_notIn_sign (pv 3) (pv 0) (by rfl)) (pss_one (ps_ret (pv 2))) pss_nil)))
      (pss_one (ps_ret pe_non))), ?_⟩
    refine ⟨_, rfl, y, rfl, for_it walk_enumS (fun i σ H1 => ∃ v2 v3 : Option V, σ = [some (.str z), some (.str y), v2, v3] ∧ Same H H1 ∧ ∀ j c, j < i → (TL.tl y)[j]? = some c → c ∈ TL.tl z)
      ⟨none, none, rfl, Same.refl H, fun j c h => absurd h (Nat.not_lt_zero _)⟩ (fun _ _ _ _ _ => trivial) ?_ ?_⟩
    · rintro i x σ H1 H2 hi ⟨v2, v3, rfl, s1, hj⟩ ⟨q, c, rfl, hq, rfl, hc⟩
      refine ⟨q, _, rfl, SqT.of upd_same, rfl, _, _, rfl, _, _, rfl, rfl, _, rfl, _, rfl, c, z, rfl, rfl, _, rfl, ite2 (fun h1 => ?_) (fun h1 => ?_)⟩
      · have h1 : c ∉ TL.tl z := by simpa using h1
        refine ⟨_, rfl, ?_⟩
        have e : strange z y = some i := by
          obtain ⟨hlt, he⟩ := List.getElem?_eq_some_iff.mp hc
          refine List.findIdx?_eq_some_iff_getElem.mpr ⟨hlt, by simp [he, h1], fun j hji => ?_⟩
          have := hj j _ hji (List.getElem?_eq_getElem (by omega))
          simpa using this
        have := k _ (s1.trans (same_new (o := .tup [.int (i : Nat), .str (sg c)]) hq))
        rw [e] at this
        exact this
      · have h1 : c ∈ TL.tl z := by simpa using h1
        refine ⟨_, _, rfl, s1.trans (same_new hq), fun j d h2 h3 => ?_⟩
        by_cases e : j = i
        · rw [e, hc] at h3
          rw [← Option.some.inj h3]; exact h1
        · exact hj j d (by omega) h3
    · rintro σ H1 ⟨v2, v3, rfl, s1, hj⟩
      have e : strange z y = none := by
        refine List.findIdx?_eq_none_iff.mpr fun c hc => ?_
        obtain ⟨j, hlt, he⟩ := List.getElem_of_mem hc
        have := hj j c (by rw [TL.len_tl]; exact hlt) (by rw [List.getElem?_eq_getElem hlt, he])
        simp [this]
      have := k _ s1
      rw [e] at this
      exact this
end
end Vf
set_option Elab.async false
set_option linter.all false
set_option maxRecDepth 100000
set_option maxHeartbeats 4000000
namespace Vf
open PySem L2 PyProof.Rows
def badRow (m n k i : Nat) (r : Row) : Prop := r.length ≠ m ∨ k ≤ i ∨ ∃ gb ∈ r, ¬ (0 ≤ gb.1 ∧ gb.1 < n)
/-- the first wrong state -/
def BadAt (m : Nat) (rs : List Row) (es : List Int) (i : Nat) : Prop :=
  (∃ h : i < rs.length, badRow m rs.length es.length i rs[i] ∧ ∀ (j : Nat) (hj : j < i), ¬ badRow m rs.length es.length j rs[j]) ∨
    (i = rs.length ∧ (∀ (j : Nat) (hj : j < rs.length), ¬ badRow m rs.length es.length j rs[j]) ∧ (rs.length = 0 ∨ rs.length < es.length))
def AllOk (m : Nat) (rs : List Row) (es : List Int) : Prop := (∀ (j : Nat) (hj : j < rs.length), ¬ badRow m rs.length es.length j rs[j]) ∧ 0 < rs.length ∧ es.length ≤ rs.length
structure TxtC (K : PySem.W.Frag) (mg : Str → Option Value) (B CB fB' : Addr) : Prop where
  len : mg "len" = none
  any : mg "any" = none
  tuple : mg "tuple" = none
  enumerate : mg "enumerate" = none
  base : BaseT K mg "CodeError" B
  bc : ErrT K mg "BadCode" "state" CB fB'
section
variable {P : Program} {w : World} {K : PySem.W.Frag} {mg : Str → Option Value} {base : Heap}
abbrev s_BadCode___init__ : Stmt := inClass (top 3) 0
abbrev N_BadCode___init__ : List Str := ["self", "state"]
abbrev P_BadCode___init__ : List Str := ["self", "state"]
theorem sc_BadCode___init__ : FnScope N_BadCode___init__ P_BadCode___init__ (defScope s_BadCode___init__) := ⟨rfl, rfl, rfl, by decide +kernel, rfl, by decide +kernel, by decide +kernel⟩

theorem ok_bc {f B C fI : Addr} {fd : FuncData} (F : Fun K "__init__" "BadCode.__init__" s_BadCode___init__ f fd) (Tb : BaseT K mg "CodeError" B) (T : ErrT K mg "BadCode" "state" C fI) : FnOk P w K mg base CX0 1 f fd P_BadCode___init__ (spErr C "state") := by
  refine F.ok sc_BadCode___init__ (fun vs H Q E h => ?_) (fun cdv A outer s H vs Q E hr h => ?_)
  · obtain ⟨a, v, rfl, _⟩ := h
    rfl
  · obtain ⟨a, v, rfl, ha, k⟩ := h
    refine ⟨_, pss_cons (ps_expr (pe_clsinit Tb (by rfl) (pa_cons (pv 0) (pa_cons pe_str pa_nil)))) (pss_one (ps_ost (pv 0) (pv 1))), ?_⟩
    refine ⟨_, rfl, a, C, _, rfl, by show 1 ≤ 1000; decide, T.oex, ha, ?_⟩
    exact ⟨_, rfl, _, rfl, a, C, rfl, T.oex, T.nf, Or.inl ⟨ha, fun d h1 h2 => k d h1 h2⟩⟩
/-- the errors that leave: BadCode with its state -/
def EBC (CB : Addr) (H : Hp) (E : XK) (i : Nat) : Prop := ∀ d H', Raised H H' d "state" (.int i) → E (.ref CB) (some d) H'
theorem Raised.after {H H1 H' : Hp} {d : Addr} {f : Str} {v : V} (s : Same H H1) (r : Raised H1 H' d f v) : Raised H H' d f v := ⟨s.free r.1, r.2.1, s.trans r.2.2⟩
def okB (n : Int) (gb : Int × Int) : Bool := !(decide (0 ≤ gb.1) && decide (gb.1 < n))
def spCheck (K : PySem.W.Frag) (CB : Addr) : Sp := fun vs H Q E => ∃ (z : Str) (R Ev : V) (rs : List Row) (es : List Int), vs = [.str z, R, Ev] ∧ Rws K H R rs ∧ Ens K H Ev es ∧ z.length ≤ 26 ∧ rs.length ≤ 100 ∧ es.length ≤ 100 ∧ (∀ r ∈ rs, r.length ≤ 100) ∧
  (AllOk z.length rs es → ∀ H', Same H H' → Q .non H') ∧ (∀ i, BadAt z.length rs es i → EBC CB H E i)
abbrev s_check_states : Stmt := top 14
abbrev N_check_states : List Str := ["values", "rows", "ends", "many", "state", "row", "goal", "bits"]
abbrev P_check_states : List Str := ["values", "rows", "ends"]
theorem sc_check_states : FnScope N_check_states P_check_states (defScope s_check_states) := ⟨rfl, rfl, rfl, by decide +kernel, rfl, by decide +kernel, by decide +kernel⟩

theorem ok_check {f B CB fB' : Addr} {fd fdB : FuncData} (F : Fun K "check_states" "check_states" s_check_states f fd) (T : TxtC K mg B CB fB') (FB' : Fun K "__init__" "BadCode.__init__" s_BadCode___init__ fB' fdB) (bB' : Binds K fdB P_BadCode___init__ []) : FnOk P w K mg base (L2.CX P w) 3 f fd P_check_states (spCheck K CB) := by
  have GB' : FnOk P w K mg base CX0 1 fB' fdB P_BadCode___init__ (spErr CB "state") := ok_bc FB' T.base T.bc
  refine F.okX sc_check_states (fun vs H Q E h => ?_) (fun cdv A outer s H vs Q E hr h => ?_)
  · obtain ⟨z, R, Ev, rs, es, rfl, _⟩ := h
    rfl
  · obtain ⟨z, R, Ev, rs, es, rfl, hR, hE, hz, hl, hel, hrl, kq, ke⟩ := h
    refine ⟨_, (pss_cons (ps_set (i := 3) sc_check_states.nd rfl (Or.inr rfl) (pe_callB call_len (by rfl) T.len PySem.boot_len (pa_cons (pv 1) pa_nil)))
      (pss_cons (ps_for (passes_of rfl) rfl (pi_enumX (by rfl) T.enumerate (pa_cons (pv 1) pa_nil)) (pg_tup (by rfl) (pgs_cons (pg_name (i := 4) sc_check_states.nd rfl (Or.inl rfl)) (pgs_cons (pg_name (i := 5) sc_check_states.nd rfl (Or.inl rfl)) pgs_nil))) (pss_cons (ps_if (PW.pt (pw_or (pt_cmpR op_ne (pe_callB call_len (by rfl) T.len PySem.boot_len (pa_cons (pv 5) pa_nil)) (pe_callB call_len (by rfl) T.len PySem.boot_len (pa_cons (pv 0) pa_nil)) (nomark _)) (pw_or1 (pt_cmpR op_ge (pv 4) (pe_callB call_len (by rfl) T.len PySem.boot_len (pa_cons (pv 2) pa_nil)) (nomark _))))) (pss_one (ps_raise rfl (takes_of rfl rfl rfl rfl) (pmk_oex T.bc.oex T.bc.iC T.bc.tI GB' (hr.mono (by decide)) bB' .nil pass0 (by rfl) T.bc.g (pa_cons (pv 4) pa_nil)))) pss_nil)
      (pss_one (ps_if (pt_val (pe_callB (cr_any rfl) (by rfl) T.any boot_any (pa_cons (pe_lc (own := [("goal", 6), ("bits", 7)]) (g := gTup K 2 (gCons (gName 6) (gCons (gName 7) gNil))) (by rfl) sc_check_states.nd (pi_seq (K := K) rfl (pv 5)) (blkOk_by (own := [("goal", 6), ("bits", 7)]) (N := N_check_states) (sc := defScope s_check_states) (by decide +kernel)) (fun _ _ _ _ _ => (pg_tup (by rfl) (pgs_cons (pg_name (i := 6) sc_check_states.nd rfl (Or.inl rfl)) (pgs_cons (pg_name (i := 7) sc_check_states.nd rfl (Or.inl rfl)) pgs_nil)))) (fun _ _ _ _ _ => pts_nil) (fun _ _ _ _ _ => (pe_not (pe_chain op_le op_lt pe_int (pv 6) (pv 3))))) pa_nil))) (pss_one (ps_raise rfl (takes_of rfl rfl rfl rfl) (pmk_oex T.bc.oex T.bc.iC T.bc.tI GB' (hr.mono (by decide)) bB' .nil pass0 (by rfl) T.bc.g (pa_cons (pv 4) pa_nil)))) pss_nil))))
      (pss_one (ps_if (PW.pt (pw_or (pt_cmpR op_eq (pv 3) pe_int (nomark _)) (pw_or1 (pt_cmpR op_gt (pe_callB call_len (by rfl) T.len PySem.boot_len (pa_cons (pv 2) pa_nil)) (pv 3) (nomark _))))) (pss_one (ps_raise rfl (takes_of rfl rfl rfl rfl) (pmk_oex T.bc.oex T.bc.iC T.bc.tI GB' (hr.mono (by decide)) bB' .nil pass0 (by rfl) T.bc.g (pa_cons (pv 3) pa_nil)))) pss_nil)))), ?_⟩
    obtain ⟨r, xs, rfl, hr1, lr, hrow⟩ := hR.at
    obtain ⟨e, rfl, he1⟩ := hE.at
    have hzs : z.length ≤ sizeLine := Nat.le_of_lt (small1000 (by omega))
    refine ⟨_, rfl, _, _, rfl, hr1.len, ?_⟩
    refine ⟨_, rfl, r, xs, rfl, hr1, fun J hJ => for_it hJ (fun i σ H1 => ∃ v4 v5 v6 v7 : Option V, σ = [some (.str z), some (.ref r), some (.ref e), some (.int xs.length), v4, v5, v6, v7] ∧ Same H H1 ∧ ∀ (j : Nat) (hj : j < rs.length), j < i → ¬ badRow z.length rs.length es.length j rs[j])
      ⟨none, none, none, none, rfl, Same.refl H, fun j _ h => absurd h (Nat.not_lt_zero _)⟩ (fun i σ H1 _ ⟨_, _, _, _, _, s1, _⟩ => GSq.same s1) ?_ ?_⟩
    · rintro i x σ H1 H2 hi ⟨v4, v5, v6, v7, rfl, s1, hj⟩ ⟨q, b, rfl, hq, rfl, hb⟩
      have hi' : i < rs.length := by omega
      obtain ⟨w5, ts, rfl, hw1, hw2⟩ := hrow i hi' b hb
      have lt : ts.length = rs[i].length := by rw [hw2.length, List.length_map]
      have hri := hrl _ (List.getElem_mem hi')
      have s2 : Same H (L2.upd H1 q (.tup [.int i, .ref w5])) := s1.trans (same_new hq)
      refine ⟨q, _, rfl, SqT.of upd_same, rfl, _, _, rfl, _, _, rfl, rfl, ?_⟩
      generalize L2.upd H1 q (.tup [.int i, .ref w5]) = H3 at s2
      refine ⟨_, rfl, _, _, rfl, (hw1.same s2).len, _, rfl, _, _, rfl, ⟨hzs, rfl⟩, rfl, _, rfl, ?_⟩
      refine ite2 (fun c1 => ?_) (fun c1 => ?_)
      · have c1 : rs[i].length ≠ z.length := by simp [lt] at c1; omega
        have hbad : BadAt z.length rs es i := Or.inl ⟨hi', Or.inl c1, fun j hj' => hj j (by omega) hj'⟩
        refine ⟨_, rfl, by show 1 ≤ 1000; decide, fun a ha => ⟨a, _, rfl, upd_same, fun d hd hda => ⟨rfl, d, [("state", V.int i)], upd_same, ?_, ?_, ?_⟩⟩⟩
        · rw [upd_ne hda, upd_same]
        · rw [upd_ne hda] at hd; exact hd
        · rw [upd_ne hda] at hd
          exact ke i hbad d _ ((raised_of ha hd hda).after s2)
      have c1 : rs[i].length = z.length := by simp [lt] at c1; omega
      refine ⟨_, rfl, _, rfl, _, _, rfl, (he1.same s2).len, _, _, rfl, rfl, _, rfl, ite2 (fun c2 => ?_) (fun c2 => ?_)⟩
      · have c2 : es.length ≤ i := by simpa using c2
        have hbad : BadAt z.length rs es i := Or.inl ⟨hi', Or.inr (Or.inl c2), fun j hj' => hj j (by omega) hj'⟩
        refine ⟨_, rfl, by show 1 ≤ 1000; decide, fun a ha => ⟨a, _, rfl, upd_same, fun d hd hda => ⟨rfl, d, [("state", V.int i)], upd_same, ?_, ?_, ?_⟩⟩⟩
        · rw [upd_ne hda, upd_same]
        · rw [upd_ne hda] at hd; exact hd
        · rw [upd_ne hda] at hd
          exact ke i hbad d _ ((raised_of ha hd hda).after s2)
      have c2 : i < es.length := by simpa using c2
      -- any([..])
      refine ⟨_, rfl, w5, ts, rfl, hw1.same s2, fun J2 hJ2 D hD => lc_it hJ2 (fun j H4 => H4 D = some (.lst (((rs[i].take j).map (okB xs.length)).map V.bl)) ∧ Same H3 H4)
        ⟨upd_same, same_new hD⟩ (fun j H4 _ ⟨_, s4⟩ => GSq.same s4) ?_ ?_⟩
      · rintro j x H4' H4 hjt ⟨hD4, s4⟩ ⟨rfl, hx⟩
        obtain ⟨tt, hj', rfl, htt⟩ := tup_at hw2 hx
        refine ⟨tt, _, rfl, (Kl.same (s2.trans s4)).seqT htt, rfl, _, _, rfl, _, _, rfl, rfl, rfl, ?_⟩
        refine lcYes ?_
        have hlen : (((rs[i].take j).map (okB xs.length)).map V.bl).length < sizeLine := by
          rw [List.length_map, List.length_map, List.length_take]; exact small1000 (by omega)
        have ee : ∀ v : V, v = .bl (okB xs.length (rs[i][j])) → L2.upd H4 D (.lst (((rs[i].take j).map (okB xs.length)).map V.bl ++ [v])) D = some (.lst (((rs[i].take (j + 1)).map (okB xs.length)).map V.bl)) := fun v hv => by
          rw [upd_same, take_more hj', List.map_append, List.map_append, hv]; rfl
        refine ⟨_, rfl, _, _, rfl, rfl, _, rfl, ?_⟩
        by_cases g0 : 0 ≤ (rs[i][j]).1
        · rw [if_pos (decide_eq_true g0)]
          refine ⟨_, rfl, _, _, rfl, rfl, _, rfl, _, hD4, hlen, ee _ ?_, s4.put hD⟩
          unfold okB
          rw [decide_eq_true g0, Bool.true_and]
        · rw [if_neg (by simpa using g0)]
          refine ⟨_, rfl, _, hD4, hlen, ee _ ?_, s4.put hD⟩
          unfold okB
          rw [decide_eq_false g0]; rfl
      · rintro H4 ⟨hD4, s4⟩
        rw [lt, List.take_length] at hD4
        refine ⟨D, _, rfl, SqL.of hD4, _, rfl, ite2 (fun c3 => ?_) (fun c3 => ?_)⟩
        · have c3 : ∃ gb ∈ rs[i], ¬ (0 ≤ gb.1 ∧ gb.1 < rs.length) := by
            obtain ⟨b, hb1, hb2⟩ := List.any_eq_true.mp c3
            obtain ⟨gb, hgb, rfl⟩ := List.mem_map.mp hb1
            refine ⟨gb, hgb, fun h => ?_⟩
            have hb2 : okB xs.length gb = true := hb2
            unfold okB at hb2
            rw [decide_eq_true h.1, decide_eq_true (show gb.1 < (xs.length : Int) by rw [lr]; exact h.2)] at hb2
            exact Bool.noConfusion hb2
          have hbad : BadAt z.length rs es i := Or.inl ⟨hi', Or.inr (Or.inr c3), fun j hj' => hj j (by omega) hj'⟩
          have s5 : Same H H4 := s2.trans s4
          refine ⟨_, rfl, by show 1 ≤ 1000; decide, fun a ha => ⟨a, _, rfl, upd_same, fun d hd hda => ⟨rfl, d, [("state", V.int i)], upd_same, ?_, ?_, ?_⟩⟩⟩
          · rw [upd_ne hda, upd_same]
          · rw [upd_ne hda] at hd; exact hd
          · rw [upd_ne hda] at hd
            exact ke i hbad d _ ((raised_of ha hd hda).after s5)
        · refine ⟨_, _, _, _, rfl, s2.trans s4, fun j hjl hji => ?_⟩
          by_cases e : j = i
          · subst e
            rintro (h | h | ⟨gb, hgb, h⟩)
            · exact h c1
            · omega
            · refine c3 (List.any_eq_true.mpr ⟨true, List.mem_map.mpr ⟨gb, hgb, ?_⟩, rfl⟩)
              unfold okB
              rw [lr]
              by_cases h0 : 0 ≤ gb.1
              · have h1 : ¬ gb.1 < (rs.length : Int) := fun q => h ⟨h0, q⟩
                rw [decide_eq_false h1, Bool.and_false]; rfl
              · rw [decide_eq_false h0]; rfl
          · exact hj j hjl (by omega)
    · rintro σ H1 ⟨v4, v5, v6, v7, rfl, s1, hj⟩
      have hj : ∀ (j : Nat) (hj : j < rs.length), ¬ badRow z.length rs.length es.length j rs[j] := fun j h => hj j h (by omega)
      have bad : rs.length = 0 ∨ rs.length < es.length → BadAt z.length rs es rs.length := fun h => Or.inr ⟨rfl, hj, h⟩
      have hkb : BadAt z.length rs es rs.length → EBC CB H E rs.length := ke rs.length
      rw [← lr] at hkb
      refine ⟨_, rfl, rfl, _, rfl, ite2 (fun c1 => ?_) (fun c1 => ?_)⟩
      · have c1 : xs.length = 0 := by simpa using c1
        refine ⟨_, rfl, by show 1 ≤ 1000; decide, fun a ha => ⟨a, _, rfl, upd_same, fun d hd hda => ⟨rfl, d, [("state", V.int xs.length)], upd_same, ?_, ?_, ?_⟩⟩⟩
        · rw [upd_ne hda, upd_same]
        · rw [upd_ne hda] at hd; exact hd
        · rw [upd_ne hda] at hd
          exact hkb (by rw [lr]; exact bad (Or.inl (by omega))) d _ ((raised_of ha hd hda).after s1)
      have c1 : xs.length ≠ 0 := by simpa using c1
      refine ⟨_, rfl, _, _, rfl, (he1.same s1).len, _, rfl, _, _, rfl, rfl, _, rfl, ite2 (fun c2 => ?_) (fun c2 => ?_)⟩
      · have c2 : xs.length < es.length := by simpa using c2
        refine ⟨_, rfl, by show 1 ≤ 1000; decide, fun a ha => ⟨a, _, rfl, upd_same, fun d hd hda => ⟨rfl, d, [("state", V.int xs.length)], upd_same, ?_, ?_, ?_⟩⟩⟩
        · rw [upd_ne hda, upd_same]
        · rw [upd_ne hda] at hd; exact hd
        · rw [upd_ne hda] at hd
          exact hkb (by rw [lr]; exact bad (Or.inr (by omega))) d _ ((raised_of ha hd hda).after s1)
      have c2 : es.length ≤ xs.length := by simpa using c2
      exact kq ⟨hj, by omega, by omega⟩ _ s1
end
end Vf
set_option Elab.async false
set_option linter.all false
set_option maxRecDepth 100000
set_option maxHeartbeats 4000000
namespace Vf
open PySem L2 PyProof.Rows
theorem kLR : ¬ (("letters" : Str) = "rows") := by decide +kernel
theorem kLE : ¬ (("letters" : Str) = "ends") := by decide +kernel
theorem kRE : ¬ (("rows" : Str) = "ends") := by decide +kernel
/-- a code's attributes -/
def cflds (z : Str) (R E : V) : List (Str × V) := putF "ends" E (putF "rows" R (putF "letters" (.str z) []))
theorem cf_letters (z : Str) (R E : V) : (cflds z R E).lookup ("letters" : Str) = some (.str z) := by
  unfold cflds
  rw [lookup_putF, if_neg kLE, lookup_putF, if_neg kLR, lookup_putF, if_pos rfl]
theorem cf_rows (z : Str) (R E : V) : (cflds z R E).lookup ("rows" : Str) = some R := by
  unfold cflds
  rw [lookup_putF, if_neg kRE, lookup_putF, if_pos rfl]
theorem cf_ends (z : Str) (R E : V) : (cflds z R E).lookup ("ends" : Str) = some E := by
  unfold cflds
  rw [lookup_putF, if_pos rfl]
theorem cf_no (z : Str) (R E : V) {m : Str} (h1 : ¬ m = "letters") (h2 : ¬ m = "rows") (h3 : ¬ m = "ends") : (cflds z R E).lookup m = none := by
  unfold cflds
  rw [lookup_putF, if_neg h3, lookup_putF, if_neg h2, lookup_putF, if_neg h1]
  rfl
/-- a code's object -/
def CodeAt (K : PySem.W.Frag) (C : Addr) (H : Hp) (o : Addr) (z : Str) (rs : List Row) (es : List Int) : Prop :=
  ∃ dx R E, H o = some (.ins C dx (cflds z R E)) ∧ Dp K H R (rowsT rs) ∧ Dp K H E (intsT es)
/-- what is asked of the class -/
structure TxtK (K : PySem.W.Frag) (mg : Str → Option Value) (C fCS B CB fB' : Addr) : Prop extends TxtC K mg B CB fB' where
  cl : Cls K C
  nL : NoAttr K C "letters"
  nR : NoAttr K C "rows"
  nE : NoAttr K C "ends"
  mgCode : mg "Code" = some (.ref C)
  mcheck_states : mg "check_states" = some (.ref fCS)
  kcheck_states : PySem.W.keepIn K (.ref fCS) = true
/-- Code(..), right or wrong; what was there stays -/
def spInit (K : PySem.W.Frag) (C CB : Addr) : Sp := fun vs H Q E' => ∃ (o dx : Addr) (z : Str) (R E : V) (rs : List Row) (es : List Int), vs = [.ref o, .str z, R, E] ∧ H o = some (.ins C dx []) ∧ Rws K H R rs ∧ Ens K H E es ∧ z.length ≤ 26 ∧ rs.length ≤ 100 ∧ es.length ≤ 100 ∧ (∀ r ∈ rs, r.length ≤ 100) ∧
  (AllOk z.length rs es → ∀ H', CodeAt K C H' o z rs es → (∀ b u, H b = some u → b ≠ o → H' b = some u) → Q .non H') ∧ (∀ i, BadAt z.length rs es i → EBC CB H E' i)
section
variable {P : Program} {w : World} {K : PySem.W.Frag} {mg : Str → Option Value} {base : Heap}
abbrev s_Code___init__ : Stmt := inClass (top 13) 0
abbrev N_Code___init__ : List Str := ["self", "values", "rows", "ends", "row", "goal", "bits"]
abbrev P_Code___init__ : List Str := ["self", "values", "rows", "ends"]
theorem sc_Code___init__ : FnScope N_Code___init__ P_Code___init__ (defScope s_Code___init__) := ⟨rfl, rfl, rfl, by decide +kernel, rfl, by decide +kernel, by decide +kernel⟩

theorem ok_init {f fCS C B CB fB' : Addr} {fd fdCS fdB : FuncData} (F : Fun K "__init__" "Code.__init__" s_Code___init__ f fd) (T : TxtK K mg C fCS B CB fB') (FCS : Fun K "check_states" "check_states" s_check_states fCS fdCS) (bcheck_states : Binds K fdCS P_check_states [])
    (FB' : Fun K "__init__" "BadCode.__init__" s_BadCode___init__ fB' fdB) (bB' : Binds K fdB P_BadCode___init__ []) : FnOk P w K mg base (L2.CX P w) 4 f fd P_Code___init__ (spInit K C CB) := by
  have Gcheck_states : FnOk P w K mg base (L2.CX P w) 3 fCS fdCS P_check_states (spCheck K CB) := ok_check FCS T.toTxtC FB' bB'
  refine F.okX sc_Code___init__ (fun vs H Q E h => ?_) (fun cdv A outer s H vs Q E' hr h => ?_)
  · obtain ⟨o, dx, z, R, E, rs, es, rfl, _⟩ := h
    rfl
  · obtain ⟨o, dx, z, R, E, rs, es, rfl, ho, hR, hE, hz, hl, hel, hrl, kq, ke⟩ := h
    refine ⟨_, (pss_cons (ps_expr (pe_call Gcheck_states (hr.mono (by decide)) (by rfl) T.mcheck_states T.kcheck_states bcheck_states .nil (passes_call (takes_of rfl rfl rfl rfl) (fun _ _ _ _ h => h)) (pa_cons (pv 1) (pa_cons (pv 2) (pa_cons (pv 3) pa_nil)))))
      (pss_cons (ps_fld (pv 0) (pv 1) rfl)
      (pss_cons (ps_fld (pv 0) (pe_callTy call_tuple_of (by rfl) T.tuple boot_tuple (pa_cons (pe_lc (own := [("row", 4)]) (g := gName 4) (by rfl) sc_Code___init__.nd (pi_seq (K := K) rfl (pv 2)) (blkOk_by (own := [("row", 4)]) (N := N_Code___init__) (sc := defScope s_Code___init__) (by decide +kernel)) (fun _ _ _ _ _ => pg_name (i := 4) sc_Code___init__.nd rfl (Or.inl rfl)) (fun _ _ _ _ _ => pts_nil) (fun _ _ _ _ _ => (pe_callTy (call_tupleK (K := K) rfl) (by rfl) T.tuple boot_tuple (pa_cons (pe_lc (own := [("goal", 5), ("bits", 6)]) (g := gTup K 2 (gCons (gName 5) (gCons (gName 6) gNil))) (by rfl) sc_Code___init__.nd (pi_seq (K := K) rfl (pv 4)) (blkOk_by (own := [("goal", 5), ("bits", 6)]) (N := N_Code___init__) (by with_unfolding_all rfl)) (fun _ _ _ _ _ => (pg_tup (by rfl) (pgs_cons (pg_name (i := 5) sc_Code___init__.nd rfl (Or.inl rfl)) (pgs_cons (pg_name (i := 6) sc_Code___init__.nd rfl (Or.inl rfl)) pgs_nil)))) (fun _ _ _ _ _ => pts_nil) (fun _ _ _ _ _ => (pe_tup (pa_cons (pv 5) (pa_cons (pv 6) pa_nil))))) pa_nil)))) pa_nil)) rfl)
      (pss_one (ps_fld (pv 0) (pe_callTy call_tuple_of (by rfl) T.tuple boot_tuple (pa_cons (pv 3) pa_nil)) rfl))))), ?_⟩
    refine ⟨_, rfl, _, rfl, _, rfl, z, R, E, rs, es, rfl, hR, hE, hz, hl, hel, hrl, fun hok H1 s1 => ?_, fun i hb => ke i hb⟩
    have k := kq hok
    obtain ⟨r, xs, rfl, hr1, lr, hrow⟩ := hR.at
    obtain ⟨e, rfl, he1⟩ := hE.at
    have ho1 := s1 _ _ ho
    -- self.letters = values
    refine ⟨_, rfl, _, rfl, o, C, dx, [], rfl, ho1, T.cl, T.nL, (by show 0 < 1000; decide), ?_⟩
    have k2 : ∀ b u, H b = some u → b ≠ o → (L2.upd H1 o (.ins C dx (putF "letters" (.str z) []))) b = some u := fun b u h n => by rw [upd_ne n]; exact s1 b u h
    have ho2 : (L2.upd H1 o (.ins C dx (putF "letters" (.str z) []))) o = some (.ins C dx (putF "letters" (.str z) [])) := upd_same
    revert k2 ho2
    generalize L2.upd H1 o (.ins C dx (putF "letters" (.str z) [])) = H2
    intro k2 ho2
    have kl2 : Kl H H2 := fun b u h d => k2 b u h fun q => by rw [q, ho] at h; cases h; exact d
    -- self.rows = ..
    refine ⟨_, rfl, r, xs, rfl, hr1.kl kl2, fun J hJ D hD => lc_it hJ (fun i H4 => ∃ vs : List V, H4 D = some (.lst vs) ∧ DpAll K (L2.del H4 D) vs ((rs.take i).map rowT) ∧ Same H2 H4)
      ⟨[], upd_same, .nil, same_new hD⟩ (fun i H4 _ ⟨_, _, _, s4⟩ => GSq.same s4) ?_ ?_⟩
    · rintro i x H4' H4 hi ⟨vs, hD4, hd4, s4⟩ ⟨rfl, hx⟩
      have hi' : i < rs.length := by omega
      obtain ⟨w5, ts, rfl, hw1, hw2⟩ := hrow i hi' x hx
      have hri := hrl _ (List.getElem_mem hi')
      have lt : ts.length = rs[i].length := by rw [hw2.length, List.length_map]
      have kl4 : Kl H H4 := kl2.trans (Kl.same s4)
      refine ⟨rfl, ?_⟩
      refine lcYes ?_
      refine ⟨_, rfl, w5, ts, rfl, hw1.kl kl4, fun J2 hJ2 D2 hD2 => lc_it hJ2 (fun j H5 => ∃ us : List V, H5 D2 = some (.lst us) ∧ DpAll K (L2.del (L2.del H5 D) D2) us ((rs[i].take j).map tupD) ∧ Same H4 H5)
        ⟨[], upd_same, .nil, same_new hD2⟩ (fun j H5 _ ⟨_, _, _, s5⟩ => GSq.same s5) ?_ ?_⟩
      · rintro j y H5' H5 hjt ⟨us, hD5, hd5, s5⟩ ⟨rfl, hy⟩
        obtain ⟨tt, hj', rfl, htt⟩ := tup_at hw2 hy
        refine ⟨tt, _, rfl, (kl4.trans (Kl.same s5)).seqT htt, rfl, _, _, rfl, _, _, rfl, rfl, rfl, ?_⟩
        refine lcYes ?_
        refine ⟨_, rfl, _, rfl, (by show 2 ≤ sizeLine; decide), fun q hq => ⟨us, ?_, ?_, us ++ [.ref q], upd_same, ?_, ?_⟩⟩
        · rw [upd_ne (ne_of_none hD5 hq)]; exact hD5
        · rw [hd5.length, List.length_map, List.length_take]; exact small1000 (by omega)
        · have nqD2 : q ≠ D2 := (ne_of_none hD5 hq).symm
          have nqD : q ≠ D := (ne_of_none (s5 _ _ hD4) hq).symm
          rw [take_more hj', List.map_append]
          refine (hd5.mv fun b o e _ => ?_).snoc (.tup (SqT.of ?_) (.cons (.int _) (.cons (.int _) .nil)))
          · obtain ⟨h1, h2⟩ := del_some e
            obtain ⟨h3, h4⟩ := del_some h2
            rw [del_ne h1, del_ne h3, upd_ne h1, upd_ne (ne_of_none h4 hq)]
            exact h4
          · rw [del_ne nqD2, del_ne nqD, upd_ne nqD2, upd_same]
        · exact (s5.trans (same_new hq)).put hD2
      · rintro H5 ⟨us, hD5, hd5, s5⟩
        refine ⟨D2, us, rfl, Or.inl ⟨SqL.of hD5, fun t ht => ⟨vs, ?_, ?_, vs ++ [.ref t], upd_same, ?_, ?_⟩⟩⟩
        · rw [upd_ne (ne_of_none (s5 _ _ hD4) ht)]; exact s5 _ _ hD4
        · rw [hd4.length, List.length_map, List.length_take]; exact small1000 (by omega)
        · have ntD : t ≠ D := (ne_of_none (s5 _ _ hD4) ht).symm
          have e0 : Kl (L2.del H5 D) (L2.del (L2.upd (L2.upd H5 t (.tup us)) D (.lst (vs ++ [.ref t]))) D) := fun b o e _ => by
            obtain ⟨h1, h2⟩ := del_some e
            rw [del_ne h1, upd_ne h1, upd_ne (ne_of_none h2 ht)]
            exact h2
          rw [take_more hi', List.map_append]
          refine (hd4.mv (((Kl.same s5).del D).trans e0)).snoc (.tup (xs := us) (SqT.of ?_) ?_)
          · rw [del_ne ntD, upd_ne ntD, upd_same]
          · have := hd5.mv ((Kl.undel _ D2).trans e0)
            rw [lt, List.take_of_length_le (Nat.le_refl _)] at this
            exact this
        · exact ((s4.trans s5).trans (same_new ht)).put hD
    · rintro H4 ⟨vs, hD4, hd4, s4⟩
      rw [lr, List.take_of_length_le (Nat.le_refl _)] at hd4
      refine ⟨D, vs, rfl, Or.inl ⟨SqL.of hD4, fun t ht => ?_⟩⟩
      have s5 : Same H2 (L2.upd H4 t (.tup vs)) := s4.trans (same_new ht)
      have hT : Dp K (L2.upd H4 t (.tup vs)) (.ref t) (rowsT rs) := .tup (SqT.of upd_same) (hd4.mv ((Kl.undel _ _).trans (Kl.same (same_new ht))))
      revert s5 hT
      generalize L2.upd H4 t (.tup vs) = H5
      intro s5 hT
      have ho5 := s5 _ _ ho2
      refine ⟨_, rfl, o, C, dx, _, rfl, ho5, T.cl, T.nR, (by show 1 < 1000; decide), ?_⟩
      -- self.ends = tuple(ends)
      have hnko : ∀ b u, H b = some u → b ≠ o → (L2.upd H5 o (.ins C dx (putF "rows" (.ref t) (putF "letters" (.str z) [])))) b = some u := fun b u h n => by rw [upd_ne n]; exact s5 _ _ (k2 b u h n)
      have hT6 : Dp K (L2.upd H5 o (.ins C dx (putF "rows" (.ref t) (putF "letters" (.str z) [])))) (.ref t) (rowsT rs) := hT.mv fun b u h d => by
        rw [upd_ne (fun q => by rw [q, ho5] at h; cases h; exact d)]; exact h
      have ho6 : (L2.upd H5 o (.ins C dx (putF "rows" (.ref t) (putF "letters" (.str z) [])))) o = some (.ins C dx (putF "rows" (.ref t) (putF "letters" (.str z) []))) := upd_same
      revert hnko hT6 ho6
      generalize L2.upd H5 o (.ins C dx (putF "rows" (.ref t) (putF "letters" (.str z) []))) = H6
      intro hnko hT6 ho6
      have kl6 : Kl H H6 := fun b u h d => hnko b u h fun q => by rw [q, ho] at h; cases h; exact d
      have fin : ∀ (a : Addr) (H7 : Hp), Same H6 H7 → SqT K H7 a (es.map V.int) → Q .non (L2.upd H7 o (.ins C dx (cflds z (.ref t) (.ref a)))) := fun a H7 s7 ha => by
        have kl8 : Kl H7 (L2.upd H7 o (.ins C dx (cflds z (.ref t) (.ref a)))) := fun b u h d => by
          rw [upd_ne (fun q => by rw [q, s7 _ _ ho6] at h; cases h; exact d)]; exact h
        refine k _ ⟨dx, .ref t, .ref a, upd_same, (hT6.mv (Kl.same s7)).mv kl8, (Dp.tup ha (dpAll_ints K H7 es)).mv kl8⟩ fun b u h n => ?_
        rw [upd_ne n]
        exact s7 _ _ (hnko b u h n)
      rcases he1 with h1 | h1
      · exact ⟨_, rfl, e, _, rfl, Or.inl ⟨kl6.seq h1, fun a ha => ⟨_, rfl, o, C, dx, _, rfl, (same_new ha) _ _ ho6, T.cl, T.nE, (by show 2 < 1000; decide), fin a _ (same_new ha) (SqT.of upd_same)⟩⟩⟩
      · exact ⟨_, rfl, e, _, rfl, Or.inr ⟨kl6.seqT h1, ⟨_, rfl, o, C, dx, _, rfl, ho6, T.cl, T.nE, (by show 2 < 1000; decide), fin e _ (Same.refl _) (kl6.seqT h1)⟩⟩⟩
end
end Vf
set_option Elab.async false
set_option linter.all false
set_option maxRecDepth 100000
set_option maxHeartbeats 4000000
/-! == and len by an own __eq__, __len__: any answer -/
namespace Vf
open PySem PySem.Spec PyProof.Rows L2
section
variable {X : Cx} {CX : CXT} {n : Nat} {C f : Addr} {fd : FuncData} {ps : List Str} {sp : Sp} {E : XK}
theorem run_ok {A : Around} {pins : List (Addr × Obj)} {σ : L2.St} {H : Hp} {s : Shared} {us : List Value} {ws : List V} {Q : VK} (F : FnOk X.prog X.w X.K X.mg X.base CX n f fd ps sp) (hb : Binds X.K fd ps []) (hx : Passes CX X E) (sb : Sub X n A)
    (I : Inv X pins σ H s) (r : Vals ws us) (h : sp ws H Q E) : wpAny (model X.prog X.w) A (call (.ref f) us) (EP X pins σ Q) X.xe s := by
  have e0 : Env0 X.prog X.w X.K X.mg X.base A X.stack s H := by
    have e := I.env0
    exact ⟨by rw [sb.fr]; exact e.frames, e.mod, e.bs, e.bsz, e.funs, e.frf, e.hok, e.bare⟩
  have hl := F.len _ _ _ _ h
  refine wpAny_call (codeAny_mono (F.run A X.stack s H ⟨us, []⟩ us ws _ E sb.room e0 (by
    have hl2 : (us ++ []).length = ps.length := by rw [List.append_nil, ← r.length]; simpa using hl
    have := hb s us I.kIn hl2
    simpa using this) r h) fun r s' hq => ?_)
  cases r with
  | error e => exact hx pins σ H s e s' I hq
  | ok fl =>
    cases fl with
    | ret w => exact I.after hq
    | next => exact False.elim hq
    | brk => exact False.elim hq
    | cont => exact False.elim hq
/-- x op y, x an instance of the class at C whose def for op is at f; y another such instance -/
def rOwnI (C : Addr) (sp : Sp) (E : XK) : R2 := fun x y H Q => ∃ a dx fs b dy gs, x = .ref a ∧ y = .ref b ∧ H a = some (.ins C dx fs) ∧ H b = some (.ins C dy gs) ∧ sp [x, y] H Q E
theorem op_ownI {op : CmpOp} (hop : ∀ a b, compareOp op a b = richCompare op a b) (hs : PySem.W.findIn X.K (.ref C) (cmpInfo op).2.1 = some (some (.ref f))) (hf : PySem.W.isFn X.K (.ref f) = true) (F : FnOk X.prog X.w X.K X.mg X.base CX n f fd ps sp)
    (hr : Room n X.A) (hb : Binds X.K fd ps []) (hx : Passes CX X E) : OpR X (compareOp op) (rOwnI C sp E) := by
  intro pins s σ H x y v u Q I rx ry h
  obtain ⟨a, dx, fs, b, dy, gs, rfl, rfl, ha, hb', q⟩ := h
  cases (show v = Value.ref a from rx)
  cases (show u = Value.ref b from ry)
  obtain ⟨mA, J, _⟩ := ins_get I.hok ha
  obtain ⟨mB, J', _⟩ := ins_get I.hok hb'
  obtain ⟨od, J, _⟩ := J.look
  obtain ⟨od', J', _⟩ := J'.look
  obtain ⟨m, hF⟩ := I.fr
  rw [hop]
  refine PySem.W.cmp_K (op := op) (tb := .ref C) hr.units0 hF I.ok.mod.kin J J'.type (by simp [PySem.W.notFirst]) hs hf ?_
  refine wpAny_mono (run_ok (us := [.ref a, .ref b]) (ws := [.ref a, .ref b]) F hb hx ⟨hr, rfl⟩ I (.cons rfl (.cons rfl .nil)) q) (fun w s' z => ?_) fun _ _ x => x
  obtain ⟨z', H', I', rz, qz⟩ := z
  exact SlX.cmpback rz ⟨z', H', I', rz, qz⟩
/-- x op y, y a tuple -/
def rOwnT (K : PySem.W.Frag) (C : Addr) (sp : Sp) (E : XK) : R2 := fun x y H Q => ∃ a dx fs b ys, x = .ref a ∧ y = .ref b ∧ H a = some (.ins C dx fs) ∧ SqT K H b ys ∧ sp [x, y] H Q E
theorem op_ownT {op : CmpOp} (hop : ∀ a b, compareOp op a b = richCompare op a b) (hs : PySem.W.findIn X.K (.ref C) (cmpInfo op).2.1 = some (some (.ref f))) (hf : PySem.W.isFn X.K (.ref f) = true) (F : FnOk X.prog X.w X.K X.mg X.base CX n f fd ps sp)
    (hr : Room n X.A) (hb : Binds X.K fd ps []) (hx : Passes CX X E) (hn : PySem.W.subIn X.K (.type "tuple") (.ref C) = some false) : OpR X (compareOp op) (rOwnT X.K C sp E) := by
  intro pins s σ H x y v u Q I rx ry h
  obtain ⟨a, dx, fs, b, ys, rfl, rfl, ha, hb', q⟩ := h
  cases (show v = Value.ref a from rx)
  cases (show u = Value.ref b from ry)
  obtain ⟨mA, J, _⟩ := ins_get I.hok ha
  obtain ⟨od, J, _⟩ := J.look
  obtain ⟨m, hF⟩ := I.fr
  obtain ⟨its, r, ht, hz⟩ := I.tuple hb'
  obtain ⟨o, ho, hc, _⟩ := id ht
  have J' : PySem.W.Looks (model X.prog X.w) s.heap (typeOf (.ref b)) (.type "tuple") := fun A Q E s k q => wpAny_typeOf_ref (k _ _ ho) (by rw [hc]; exact q)
  rw [hop]
  refine PySem.W.cmp_K (op := op) (tb := .type "tuple") hr.units0 hF I.ok.mod.kin J J' (by simp [PySem.W.notFirst, hn]) hs hf ?_
  refine wpAny_mono (run_ok (us := [.ref a, .ref b]) (ws := [.ref a, .ref b]) F hb hx ⟨hr, rfl⟩ I (.cons rfl (.cons rfl .nil)) q) (fun w s' z => ?_) fun _ _ x => x
  obtain ⟨z', H', I', rz, qz⟩ := z
  exact SlX.cmpback rz ⟨z', H', I', rz, qz⟩
/-- len(x) by an own __len__ -/
def rLenI (C : Addr) (sp : Sp) (E : XK) : List V → Hp → VK → Prop := fun xs H Q => ∃ a dx fs, xs = [.ref a] ∧ H a = some (.ins C dx fs) ∧ sp [.ref a] H (fun z H' => ∃ k : Nat, z = .int k ∧ k ≤ sizeLine ∧ Q z H') E
theorem call_lenI (hs : PySem.W.findIn X.K (.ref C) "__len__" = some (some (.ref f))) (hf : PySem.W.isFn X.K (.ref f) = true) (F : FnOk X.prog X.w X.K X.mg X.base CX n f fd ps sp)
    (hr : Room (n + 1) X.A) (hb : Binds X.K fd ps []) (hx : Passes CX X E) : CallR X (.builtin "len") (rLenI C sp E) := by
  intro pins s σ H xs us Q I r h
  obtain ⟨a, dx, fs, rfl, ha, q⟩ := h
  obtain ⟨u, rfl, ru⟩ := vals1 r
  cases (show u = Value.ref a from ru)
  obtain ⟨mA, J, _⟩ := ins_get I.hok ha
  obtain ⟨od, J, _⟩ := J.look
  have hl := line63
  have hsz : sizeLine = 16777216 := sizeLine_eq
  refine Calls.call_function_entry PySem.kind_len PySem.plain_len PySem.entry_len (PySem.args_len1 _) ?_
  unfold Builtin.«len»
  refine wpAny_bind (m := oneArg "len" _) (wpAny_pure ?_)
  refine wpAny_bind (m := callSpecial? (.ref a) (PySem.Str.ofString "__len__")) (PySem.W.special_fn I.kIn J hs (beq_iff_eq.mp hf) (wpAny_mono (run_ok (us := [.ref a]) (ws := [.ref a]) F hb hx ?_ I (.cons rfl .nil) q) (fun w s' z => ?_) fun _ _ x => x))
  · exact ⟨hr.in1, rfl⟩
  · obtain ⟨z', H', I', rz, k, rfl, hk, qz⟩ := z
    obtain ⟨t, rfl⟩ := (show ∃ t, w = Value.int k t from rz)
    refine wpAny_bind (wpAny_holding (wpAny_pure ?_))
    refine wpAny_bind (wpAny_letGo ?_)
    show wpAny _ _ (if ((k : Nat) : Int) < 0 then _ else _) _ _ _
    rw [if_neg (by omega)]
    show wpAny _ _ (if ((k : Nat) : Int) ≥ 2 ^ 63 then _ else _) _ _ _
    rw [if_neg (by omega)]
    exact wpAny_bind (wpAny_mkInt (wpAny_pure ⟨_, rfl, .int k, H', I'.tok _, ⟨_, rfl⟩, qz⟩))
end
end Vf
set_option Elab.async false
set_option linter.all false
set_option maxRecDepth 100000
set_option maxHeartbeats 4000000
/-! equal data of codes -/
namespace Vf
open PySem L2 PyProof.Rows
theorem eqvAll_inj {α : Type} [DecidableEq α] {f : α → PyData} (h : ∀ x y, PyData.eqv (f x) (f y) = decide (x = y)) : ∀ xs ys : List α, PyData.eqvAll (xs.map f) (ys.map f) = decide (xs = ys)
  | [], [] => by simp [PyData.eqvAll]
  | [], _ :: _ => by simp [PyData.eqvAll]
  | _ :: _, [] => by simp [PyData.eqvAll]
  | x :: r, y :: t => by
    simp only [List.map_cons, PyData.eqvAll, h, eqvAll_inj h r t]
    rw [Bool.eq_iff_iff]
    simp
theorem eqv_int (x y : Int) : PyData.eqv (.int x) (.int y) = decide (x = y) := by
  rw [Bool.eq_iff_iff]; simp [PyData.eqv]
theorem eqv_tupD (x y : Int × Int) : PyData.eqv (tupD x) (tupD y) = decide (x = y) := by
  obtain ⟨a, b⟩ := x
  obtain ⟨c, d⟩ := y
  rw [Bool.eq_iff_iff]
  simp [tupD, PyData.eqv, PyData.eqvAll]
theorem eqv_rowT (x y : Row) : PyData.eqv (rowT x) (rowT y) = decide (x = y) := by
  show PyData.eqv (.tuple (x.map tupD)) (.tuple (y.map tupD)) = _
  rw [PyData.eqv]; exact eqvAll_inj eqv_tupD x y
theorem eqv_rowD (x y : Row) : PyData.eqv (rowD x) (rowD y) = decide (x = y) := by
  show PyData.eqv (.list (x.map tupD)) (.list (y.map tupD)) = _
  rw [PyData.eqv]; exact eqvAll_inj eqv_tupD x y
theorem eqv_rowsT (x y : List Row) : PyData.eqv (rowsT x) (rowsT y) = decide (x = y) := by
  show PyData.eqv (.tuple (x.map rowT)) (.tuple (y.map rowT)) = _
  rw [PyData.eqv]; exact eqvAll_inj eqv_rowT x y
theorem eqv_rowsD (x y : List Row) : PyData.eqv (rowsD x) (rowsD y) = decide (x = y) := by
  show PyData.eqv (.list (x.map rowD)) (.list (y.map rowD)) = _
  rw [PyData.eqv]; exact eqvAll_inj eqv_rowD x y
theorem eqv_intsT (x y : List Int) : PyData.eqv (intsT x) (intsT y) = decide (x = y) := by
  show PyData.eqv (.tuple (x.map PyData.int)) (.tuple (y.map PyData.int)) = _
  rw [PyData.eqv]; exact eqvAll_inj eqv_int x y
theorem eqv_intsD (x y : List Int) : PyData.eqv (intsD x) (intsD y) = decide (x = y) := by
  show PyData.eqv (.list (x.map PyData.int)) (.list (y.map PyData.int)) = _
  rw [PyData.eqv]; exact eqvAll_inj eqv_int x y
theorem lay_all {α : Type} {f : α → PyData} (h : ∀ x, PyData.canLay0 (f x) = true) : ∀ xs : List α, PyData.canLayAll0 (xs.map f) = true
  | [] => by simp [PyData.canLayAll0]
  | x :: r => by simp [PyData.canLayAll0, h x, lay_all h r]
theorem depth_all {α : Type} {f : α → PyData} {n : Nat} (h : ∀ x, PyData.depth (f x) ≤ n) : ∀ xs : List α, PyData.depthAll (xs.map f) ≤ n
  | [] => by simp [PyData.depthAll]
  | x :: r => by rw [List.map_cons, PyData.depthAll]; exact Nat.max_le.mpr ⟨h x, depth_all h r⟩
theorem lay_tupD (x : Int × Int) : PyData.canLay0 (tupD x) = true := by simp [tupD, PyData.canLay0, PyData.canLayAll0]
theorem dep_tupD (x : Int × Int) : PyData.depth (tupD x) ≤ 1 := by simp [tupD, PyData.depth, PyData.depthAll]
theorem shaped_of {d : PyData} {n : Nat} (h : d.canLay0 = true) (hd : d.depth ≤ n) (hn : n ≤ 64) : SeqAt.shaped d = true := by
  unfold SeqAt.shaped
  rw [h, Bool.true_and]
  exact decide_eq_true (Nat.le_trans hd hn)
theorem lay_rowT (x : Row) : PyData.canLay0 (rowT x) = true := by rw [rowT, PyData.canLay0]; exact lay_all lay_tupD x
theorem lay_rowD (x : Row) : PyData.canLay0 (rowD x) = true := by rw [rowD, PyData.canLay0]; exact lay_all lay_tupD x
theorem dep_rowT (x : Row) : PyData.depth (rowT x) ≤ 2 := by rw [rowT, PyData.depth]; have := depth_all dep_tupD x; omega
theorem dep_rowD (x : Row) : PyData.depth (rowD x) ≤ 2 := by rw [rowD, PyData.depth]; have := depth_all dep_tupD x; omega
theorem lay_rowsT (x : List Row) : PyData.canLay0 (rowsT x) = true := by rw [rowsT, PyData.canLay0]; exact lay_all lay_rowT x
theorem lay_rowsD (x : List Row) : PyData.canLay0 (rowsD x) = true := by rw [rowsD, PyData.canLay0]; exact lay_all lay_rowD x
theorem dep_rowsT (x : List Row) : PyData.depth (rowsT x) ≤ 3 := by rw [rowsT, PyData.depth]; have := depth_all dep_rowT x; omega
theorem dep_rowsD (x : List Row) : PyData.depth (rowsD x) ≤ 3 := by rw [rowsD, PyData.depth]; have := depth_all dep_rowD x; omega
theorem lay_int (x : Int) : PyData.canLay0 (.int x) = true := by simp [PyData.canLay0]
theorem dep_int (x : Int) : PyData.depth (.int x) ≤ 0 := by simp [PyData.depth]
theorem lay_intsT (x : List Int) : PyData.canLay0 (intsT x) = true := by rw [intsT, PyData.canLay0]; exact lay_all lay_int x
theorem lay_intsD (x : List Int) : PyData.canLay0 (intsD x) = true := by rw [intsD, PyData.canLay0]; exact lay_all lay_int x
theorem dep_intsT (x : List Int) : PyData.depth (intsT x) ≤ 1 := by rw [intsT, PyData.depth]; have := depth_all dep_int x; omega
theorem dep_intsD (x : List Int) : PyData.depth (intsD x) ≤ 1 := by rw [intsD, PyData.depth]; have := depth_all dep_int x; omega
theorem shaped_rowsT (x : List Row) : SeqAt.shaped (rowsT x) = true := shaped_of (lay_rowsT x) (dep_rowsT x) (by decide)
theorem shaped_rowsD (x : List Row) : SeqAt.shaped (rowsD x) = true := shaped_of (lay_rowsD x) (dep_rowsD x) (by decide)
theorem shaped_intsT (x : List Int) : SeqAt.shaped (intsT x) = true := shaped_of (lay_intsT x) (dep_intsT x) (by decide)
theorem shaped_intsD (x : List Int) : SeqAt.shaped (intsD x) = true := shaped_of (lay_intsD x) (dep_intsD x) (by decide)
end Vf
set_option Elab.async false
set_option linter.all false
set_option maxRecDepth 100000
set_option maxHeartbeats 4000000
namespace Vf
open PySem L2 PyProof.Rows
/-- what isinstance asks of the class -/
structure TxtQ (K : PySem.W.Frag) (mg : Str → Option Value) (C fCS B CB fB' fEq fLn : Addr) : Prop extends TxtK K mg C fCS B CB fB' where
  isinstance : mg "isinstance" = none
  ca : PySem.W.findIn K (.ref C) "__class__" = some (some (.builtin "object.__class__"))
  cn : PySem.W.specialIn K (.builtin "object.__class__") "__get__" = some (some (.builtin "getset_descriptor.__get__"))
  ct : PySem.W.takesIn K (.builtin "object.__class__") = some true
  cm : PySem.W.mroIn K C (.type "object") = some true
  kc : PySem.W.kitOne K (.ref C) (.ref C) = some true
  kt : PySem.W.kitOne K (.type "tuple") (.ref C) = some false
  eqs : PySem.W.findIn K (.ref C) "__eq__" = some (some (.ref fEq))
  eqf : PySem.W.isFn K (.ref fEq) = true
  lns : PySem.W.findIn K (.ref C) "__len__" = some (some (.ref fLn))
  lnf : PySem.W.isFn K (.ref fLn) = true
  tsub : PySem.W.subIn K (.type "tuple") (.ref C) = some false
section
variable {P : Program} {w : World} {K : PySem.W.Frag} {mg : Str → Option Value} {base : Heap}
def spLn (K : PySem.W.Frag) (C : Addr) : Sp := fun vs H Q _ => ∃ (o : Addr) (z : Str) (rs : List Row) (es : List Int), vs = [.ref o] ∧ CodeAt K C H o z rs es ∧ ∀ H', Same H H' → Q (.int rs.length) H'
abbrev s_Code___len__ : Stmt := inClass (top 13) 2
abbrev N_Code___len__ : List Str := ["self"]
abbrev P_Code___len__ : List Str := ["self"]
theorem sc_Code___len__ : FnScope N_Code___len__ P_Code___len__ (defScope s_Code___len__) := ⟨rfl, rfl, rfl, by decide +kernel, rfl, by decide +kernel, by decide +kernel⟩

theorem ok_ln {f C fCS B CB fB' fEq fLn : Addr} {fd : FuncData} (F : Fun K "__len__" "Code.__len__" s_Code___len__ f fd) (T : TxtQ K mg C fCS B CB fB' fEq fLn) : FnOk P w K mg base CX0 1 f fd P_Code___len__ (spLn K C) := by
  refine F.ok sc_Code___len__ (fun vs H Q E h => ?_) (fun cdv A outer s H vs Q E hr h => ?_)
  · obtain ⟨o, z, rs, es, rfl, _⟩ := h
    rfl
  · obtain ⟨o, z, rs, es, rfl, ⟨dx, R, Ev, ho, hR, hE⟩, k⟩ := h
    refine ⟨_, (pss_one (ps_ret (pe_callB call_len (by rfl) T.len PySem.boot_len (pa_cons (pe_fld (pv 0) rfl) pa_nil)))), ?_⟩
    obtain ⟨r, xs, rfl, h1, h2⟩ := hR.tupE
    refine ⟨_, rfl, o, C, dx, _, _, rfl, ho, T.cl, T.nR, cf_rows _ _ _, _, _, rfl, Or.inr ⟨_, h1, rfl⟩, ?_⟩
    rw [show xs.length = rs.length by rw [h2.length, List.length_map]]
    exact k H (Same.refl H)
/-- a code beside a code, or beside a tuple -/
def spEqC (K : PySem.W.Frag) (C : Addr) : Sp := fun vs H Q _ => ∃ (o : Addr) (y : V) (z : Str) (rs : List Row) (es : List Int), vs = [.ref o, y] ∧ CodeAt K C H o z rs es ∧
  ((∃ (o2 : Addr) (z2 : Str) (rs2 : List Row) (es2 : List Int), y = .ref o2 ∧ CodeAt K C H o2 z2 rs2 es2 ∧ ∀ H', Same H H' → Q (.bl (decide (z = z2) && (decide (rs = rs2) && decide (es = es2)))) H') ∨
    (∃ (q : Addr) (ys : List V), y = .ref q ∧ H q = some (.tup ys) ∧ ∀ H', Same H H' → Q (.bl false) H'))
abbrev s_Code___eq__ : Stmt := inClass (top 13) 1
abbrev N_Code___eq__ : List Str := ["self", "other"]
abbrev P_Code___eq__ : List Str := ["self", "other"]
theorem sc_Code___eq__ : FnScope N_Code___eq__ P_Code___eq__ (defScope s_Code___eq__) := ⟨rfl, rfl, rfl, by decide +kernel, rfl, by decide +kernel, by decide +kernel⟩

theorem ok_eq {f C fCS B CB fB' fEq fLn : Addr} {fd : FuncData} (F : Fun K "__eq__" "Code.__eq__" s_Code___eq__ f fd) (T : TxtQ K mg C fCS B CB fB' fEq fLn) : FnOk P w K mg base CX0 1 f fd P_Code___eq__ (spEqC K C) := by
  refine F.ok sc_Code___eq__ (fun vs H Q E h => ?_) (fun cdv A outer s H vs Q E hr h => ?_)
  · obtain ⟨o, y, z, rs, es, rfl, _⟩ := h
    rfl
  · obtain ⟨o, y, z, rs, es, rfl, ⟨dx, R, Ev, ho, hR, hE⟩, h⟩ := h
    refine ⟨_, (pss_one (ps_ret (L2.pe_and (pe_callB call_isi (by rfl) T.isinstance boot_isinstance (pa_cons (pv 1) (pa_cons (pe_glob (by rfl) T.mgCode (v := .ref C) rfl) pa_nil))) (L2.pe_and (pe_cmpR op_eq (pe_fld (pv 0) rfl) (pe_fld (pv 1) rfl) (nomark _)) (L2.pe_and (pe_cmpR (op_eqD hr.units) (pe_fld (pv 0) rfl) (pe_fld (pv 1) rfl) (nomark _)) (pe_one (pe_cmpR (op_eqD hr.units) (pe_fld (pv 0) rfl) (pe_fld (pv 1) rfl) (nomark _)))))))), ?_⟩
    rcases h with ⟨o2, z2, rs2, es2, rfl, ⟨dx2, R2, Ev2, ho2, hR2, hE2⟩, k⟩ | ⟨q, ys, rfl, hq, k⟩
    · refine ⟨_, rfl, _, _, _, _, _, rfl, .own C, .base (.ins ho2 T.cl T.ca T.cn T.ct T.cm), T.kc, true, rfl, ?_⟩
      rw [if_pos rfl]
      refine ⟨_, rfl, o, C, dx, _, _, rfl, ho, T.cl, T.nL, cf_letters _ _ _, _, rfl, o2, C, dx2, _, _, rfl, ho2, T.cl, T.nL, cf_letters _ _ _, rfl, _, rfl, ?_⟩
      by_cases hz : z = z2
      · rw [if_pos (decide_eq_true (congrArg V.str hz))]
        refine ⟨_, rfl, o, C, dx, _, _, rfl, ho, T.cl, T.nR, cf_rows _ _ _, _, rfl, o2, C, dx2, _, _, rfl, ho2, T.cl, T.nR, cf_rows _ _ _, rowsT rs, rowsT rs2, hR, hR2, shaped_rowsT _, shaped_rowsT _, _, rfl, ?_⟩
        rw [eqv_rowsT]
        by_cases hr2 : rs = rs2
        · rw [if_pos (decide_eq_true hr2)]
          refine ⟨_, rfl, o, C, dx, _, _, rfl, ho, T.cl, T.nE, cf_ends _ _ _, _, rfl, o2, C, dx2, _, _, rfl, ho2, T.cl, T.nE, cf_ends _ _ _, intsT es, intsT es2, hE, hE2, shaped_intsT _, shaped_intsT _, ?_⟩
          rw [eqv_intsT]
          have := k H (Same.refl H)
          rw [decide_eq_true hz, decide_eq_true hr2, Bool.true_and, Bool.true_and] at this
          exact this
        · rw [if_neg (by simpa using hr2)]
          have := k H (Same.refl H)
          rw [decide_eq_true hz, decide_eq_false hr2, Bool.true_and, Bool.false_and] at this
          exact this
      · rw [if_neg (by simpa using hz)]
        have := k H (Same.refl H)
        rw [decide_eq_false hz, Bool.false_and] at this
        exact this
    · refine ⟨_, rfl, _, _, _, _, _, rfl, .own C, .base (.tup hq), T.kt, false, rfl, ?_⟩
      rw [if_neg (by decide)]
      exact k H (Same.refl H)
end
end Vf
set_option Elab.async false
set_option linter.all false
set_option maxRecDepth 100000
set_option maxHeartbeats 4000000
namespace Vf
open PySem L2 PyProof.Rows
section
variable {P : Program} {w : World} {K : PySem.W.Frag} {mg : Str → Option Value} {base : Heap}
/-- the pick too -/
structure TxtP (K : PySem.W.Frag) (mg : Str → Option Value) (fD fP : Addr) : Prop extends TxtD K mg fD where
  m_law_pick : mg "_law_pick" = some (.ref fP)
  k_law_pick : PySem.W.keepIn K (.ref fP) = true
abbrev s__law_letters : Stmt := top 21
abbrev N__law_letters : List Str := ["_law_pen_here", "_law_many", "_law_left", "_law_found", "_law_turn", "_law_at"]
abbrev P__law_letters : List Str := ["_law_pen_here", "_law_many"]
theorem sc__law_letters : FnScope N__law_letters P__law_letters (defScope s__law_letters) := ⟨rfl, rfl, rfl, by decide +kernel, rfl, by decide +kernel, by decide +kernel⟩

theorem ok_letters {f fD : Addr} {fd fdD : FuncData} (F : Fun K "_law_letters" "_law_letters" s__law_letters f fd) (T : TxtD K mg fD) (FD : Fun K "_law_draw" "_law_draw" s__law_draw fD fdD) (b_law_draw : Binds K fdD P__law_draw []) : FnOk P w K mg base CX0 2 f fd P__law_letters spLetters := by
  have G_law_draw : FnOk P w K mg base CX0 1 fD fdD P__law_draw spDraw := ok_draw FD T.toTxtA
  refine F.ok sc__law_letters (fun vs H Q E h => ?_) (fun cdv A outer s H vs Q E hr h => ?_)
  · obtain ⟨p, c, m, n, rfl, _⟩ := h
    rfl
  · obtain ⟨p, c, m, n, rfl, hp, hn, hm, k⟩ := h
    refine ⟨_, (pss_cons (ps_par (i := 2) (j := 3) (by rfl) sc__law_letters.nd rfl rfl (by decide) rfl rfl (pa_cons pe_str (pa_cons (pe_lst pa_nil) pa_nil)) (by rfl))
      (pss_cons (ps_for PassesOwn.never rfl (pi_range1 (by rfl) T.range (pa_cons (pv 1) pa_nil)) (pg_name (i := 4) sc__law_letters.nd rfl (Or.inl rfl)) (pss_cons (ps_set (i := 5) sc__law_letters.nd rfl (Or.inl rfl) (pe_call G_law_draw (hr.mono (by decide)) (by rfl) T.m_law_draw T.k_law_draw b_law_draw .nil pass0 (pa_cons (pv 0) (pa_cons (pe_callB call_len (by rfl) T.len PySem.boot_len (pa_cons (pv 2) pa_nil)) pa_nil))))
      (pss_cons (ps_set (i := 3) sc__law_letters.nd rfl (Or.inl rfl) (pe_op op_cat (pv 3) (pe_lst (pa_cons (pe_ix ix_str (pv 2) (pv 5) (fun _ _ => rfl)) pa_nil))))
      (pss_one (ps_set (i := 2) sc__law_letters.nd rfl (Or.inl rfl) (pe_op op_add_str (pe_slice sl_str (pv 2) po_none (po_some (pv 5))) (pe_slice sl_str (pv 2) (po_some (pe_op op_add (pv 5) pe_int)) po_none)))))))
      (pss_one (ps_ret (pe_join pe_str (pe_callB cr_sortedS (by rfl) T.sorted boot_sorted (pa_cons (pv 3) pa_nil))))))), ?_⟩
    refine ⟨by show 0 ≤ sizeLine; decide, fun F0 hF => ⟨_, _, rfl, ?_⟩⟩
    have hFp : F0 ≠ p := by
      obtain ⟨kvs, hd⟩ := hp.dk
      exact (ne_of_none hd hF).symm
    refine ⟨_, rfl, (m : Int), rfl, by omega, by omega, for_range (n := m) (fun i σ H1 => ∃ (F1 : Addr) (L : Str) (fs : List Nat) (v4 v5 : Option V), σ = [some (.ref p), some (.int m), some (.str L), some (.ref F1), v4, v5] ∧
      H1 F1 = some (.lst ((fs.map sg).map V.str)) ∧ fs.length = i ∧ (fs ++ TL.tl L).Perm alpha ∧ Pen H1 p c (n + i) ∧ Kp p H H1)
      ⟨F0, _, [], none, none, rfl, upd_same, rfl, List.Perm.refl _, hp.same (same_new hF), Kp.of (same_new hF)⟩ ?_ ?_⟩
    · rintro i σ H1 hi ⟨F1, L, fs, v4, v5, rfl, hF1, hlen, hperm, hp1, kk⟩
      have hL : L.length = 26 - i := by
        have := hperm.length_eq
        rw [List.length_append, alpha_len, ← TL.len_tl] at this
        omega
      have hLz : L.length ≤ sizeLine := Nat.le_of_lt (small1000 (by omega))
      refine ⟨_, rfl, _, rfl, _, _, rfl, ⟨hLz, rfl⟩, p, c, _, n + i, rfl, hp1, by omega, by omega, by omega, fun d H2 d0 d1 hp2 kk2 => ?_⟩
      have hj : d.toNat < (TL.tl L).length := by rw [← TL.len_tl]; omega
      have hF2 : H2 F1 = some (.lst ((fs.map sg).map V.str)) := by
        obtain ⟨kvs, hd⟩ := hp1.dk
        exact kk2 _ _ hF1 (ne_of hF1 hd (by intro z; cases z))
      have ed : d = (d.toNat : Int) := (Int.toNat_of_nonneg d0).symm
      refine ⟨_, rfl, _, rfl, _, rfl, L, d, _, rfl, rfl, hLz, at_of' ed (List.getElem?_eq_getElem hj), (by show 1 ≤ sizeLine; decide), fun q hq => ?_⟩
      have s2 : Same H2 (L2.upd H2 q (.lst [V.str (sg (TL.tl L)[d.toNat])])) := same_new hq
      refine ⟨F1, q, _, _, rfl, rfl, s2 _ _ hF2, upd_same, (by rw [List.length_map, List.length_map]; show fs.length + 1 ≤ sizeLine; exact Nat.le_of_lt (small1000 (by omega))), fun r hr2 => ?_⟩
      have s3 : Same H2 (L2.upd (L2.upd H2 q (.lst [V.str (sg (TL.tl L)[d.toNat])])) r (.lst ((fs.map sg).map V.str ++ [V.str (sg (TL.tl L)[d.toNat])]))) := s2.trans (same_new hr2)
      -- left = left[:at] + left[at + 1:]
      have hjl : d.toNat < L.length := by omega
      have t1 : TL.tl (cutS L none (some d)) = (TL.tl L).take d.toNat := by rw [ed]; exact cut_to (by omega)
      have t2 : TL.tl (cutS L (some (d + 1)) none) = (TL.tl L).drop (d.toNat + 1) := by
        have e1 : d + 1 = ((d.toNat + 1 : Nat) : Int) := by omega
        rw [e1]; exact cut_from (by omega)
      refine ⟨_, rfl, _, rfl, d, rfl, L, rfl, hLz, _, rfl, _, rfl, _, _, rfl, rfl, _, rfl, L, rfl, hLz, _, _, rfl, rfl, ?_, ?_⟩
      · rw [TL.len_tl, TL.len_tl, t1, t2, List.length_take, List.length_drop, ← TL.len_tl, sizeLine_eq]
        rw [sizeLine_eq] at hLz
        omega
      · refine ⟨r, _, fs ++ [(TL.tl L)[d.toNat]], _, _, rfl, ?_, ?_, ?_, ?_, ?_⟩
        · rw [upd_same, List.map_append, List.map_append]; rfl
        · rw [List.length_append, hlen]; rfl
        · rw [TL.tl_append, t1, t2]
          have e2 : (TL.tl L).take d.toNat ++ ((TL.tl L)[d.toNat]'hj) :: (TL.tl L).drop (d.toNat + 1) = TL.tl L := by
            rw [← List.drop_eq_getElem_cons hj, List.take_append_drop]
          refine List.Perm.trans ?_ hperm
          conv => rhs; rw [← e2]
          rw [List.append_assoc]
          exact List.Perm.append_left _ (List.perm_middle (a := (TL.tl L)[d.toNat]'hj) (l₁ := (TL.tl L).take d.toNat) (l₂ := (TL.tl L).drop (d.toNat + 1))).symm
        · exact hp2.same s3
        · exact kk.trans (kk2.trans (Kp.of s3))
    · rintro σ H1 ⟨F1, L, fs, v4, v5, rfl, hF1, hlen, hperm, hp1, kk⟩
      refine ⟨⟨_, rfl⟩, _, rfl, F1, fs.map sg, rfl, SqL.of hF1, by rw [List.length_map]; omega, fun ys q hperm2 hsort hq => ?_⟩
      obtain ⟨ds, rfl, hd⟩ := perm_sg hperm2
      have hl := ltr_of hperm hd (sorted_sg hsort)
      have hdl : ds.length = m := hd.length_eq.trans hlen
      refine ⟨_, q, ds.map sg, rfl, rfl, Or.inl (SqL.of upd_same), ?_, ?_⟩
      · rw [sum_sg]
        show ds.length + (ds.map sg).length * 0 ≤ 16777216
        omega
      · have e : TL.tl (Txt.join (Str.ofString "") (ds.map sg)) = ds := join_sg ds
        refine k _ _ ⟨by rw [TL.len_tl, e]; exact hdl, by rw [e]; exact hl.1, by rw [e]; exact hl.2⟩ (hp1.same (same_new hq)) (kk.trans (Kp.of (same_new hq)))
abbrev s__law_bits : Stmt := top 22
abbrev N__law_bits : List Str := ["_law_pen_here"]
abbrev P__law_bits : List Str := ["_law_pen_here"]
theorem sc__law_bits : FnScope N__law_bits P__law_bits (defScope s__law_bits) := ⟨rfl, rfl, rfl, by decide +kernel, rfl, by decide +kernel, by decide +kernel⟩

theorem ok_bits {f fD fP : Addr} {fd fdD fdP : FuncData} (F : Fun K "_law_bits" "_law_bits" s__law_bits f fd) (T : TxtP K mg fD fP) (FD : Fun K "_law_draw" "_law_draw" s__law_draw fD fdD) (b_law_draw : Binds K fdD P__law_draw [])
    (FP : Fun K "_law_pick" "_law_pick" s__law_pick fP fdP) (b_law_pick : Binds K fdP P__law_pick []) : FnOk P w K mg base CX0 3 f fd P__law_bits spBits := by
  have G_law_draw : FnOk P w K mg base CX0 1 fD fdD P__law_draw spDraw := ok_draw FD T.toTxtA
  have G_law_pick : FnOk P w K mg base CX0 2 fP fdP P__law_pick (spPickL K) := ok_pickL FP T.toTxtD FD b_law_draw
  refine F.ok sc__law_bits (fun vs H Q E h => ?_) (fun cdv A outer s H vs Q E hr h => ?_)
  · obtain ⟨p, c, n, rfl, _⟩ := h
    rfl
  · obtain ⟨p, c, n, rfl, hp, hn, k⟩ := h
    refine ⟨_, (pss_one (ps_ret (pe_call G_law_pick (hr.mono (by decide)) (by rfl) T.m_law_pick T.k_law_pick b_law_pick .nil pass0 (pa_cons (pv 0) (pa_cons (pe_lst (pa_cons pe_int (pa_cons pe_int (pa_cons pe_int (pa_cons pe_int (pa_cons pe_int (pa_cons pe_int (pa_cons pe_int (pa_cons pe_int (pa_cons (pe_call G_law_draw (hr.mono (by decide)) (by rfl) T.m_law_draw T.k_law_draw b_law_draw .nil pass0 (pa_cons (pv 0) (pa_cons pe_int pa_nil))) (pa_cons (pe_call G_law_draw (hr.mono (by decide)) (by rfl) T.m_law_draw T.k_law_draw b_law_draw .nil pass0 (pa_cons (pv 0) (pa_cons pe_int pa_nil))) pa_nil))))))))))) pa_nil))))), ?_⟩
    refine ⟨_, rfl, _, rfl, p, c, _, n, rfl, hp, by omega, by decide, by decide, fun x H1 x0 x1 hp1 k1 => ?_⟩
    refine ⟨_, rfl, p, c, _, n + 1, rfl, hp1, by omega, by decide, by decide, fun y H2 y0 y1 hp2 k2 => ⟨by show 10 ≤ sizeLine; decide, fun q hq => ?_⟩⟩
    refine ⟨p, c, q, _, n + 2, rfl, hp2.same (same_new hq), by omega, SqL.of upd_same, (by show 0 < 10; decide), (by show 10 ≤ 1000; decide), fun j v H3 hv hp3 k3 => ?_⟩
    have kk : Kp p H H3 := (k1.trans k2).trans ((Kp.of (same_new hq)).trans k3)
    have hm := List.mem_of_getElem? hv
    simp only [List.mem_cons, List.not_mem_nil, or_false] at hm
    rcases hm with e | e | e | e | e | e | e | e | e | e <;> (subst e; exact k _ _ (by omega) (by omega) hp3 kk)
end
end Vf
set_option Elab.async false
set_option linter.all false
set_option maxRecDepth 100000
set_option maxHeartbeats 4000000
namespace Vf
open PySem L2 PyProof.Rows
/-- a drawn code -/
def spCode (K : PySem.W.Frag) : Sp := fun vs H Q _ => ∃ (p c : Addr) (z : Str) (most : Int) (n : Nat), vs = [.ref p, .str z, .int most] ∧ Pen H p c n ∧ n ≤ 2 ^ 28 ∧ 1 ≤ most ∧ most ≤ 40 ∧ z.length ≤ 26 ∧
  ∀ (t D : Addr) (R : V) (rs : List Row) (es : List Int) (H' : Hp), H D = none → H' t = some (.tup [.str z, R, .ref D]) → Dp K (L2.del H' D) R (rowsD rs) → H' D = some (.lst (es.map V.int)) → Good z.length rs es → (rs.length : Int) ≤ most → Pen H' p c (n + 5000) → Kp p H H' → Q (.ref t) H'
/-- bits too -/
structure TxtB (K : PySem.W.Frag) (mg : Str → Option Value) (fD fP fB : Addr) : Prop extends TxtP K mg fD fP where
  m_law_bits : mg "_law_bits" = some (.ref fB)
  k_law_bits : PySem.W.keepIn K (.ref fB) = true
section
variable {P : Program} {w : World} {K : PySem.W.Frag} {mg : Str → Option Value} {base : Heap}
abbrev s__law_code : Stmt := top 23
abbrev N__law_code : List Str := ["_law_pen_here", "_law_letters_here", "_law_most", "_law_count", "_law_rows", "_law_state", "_law_row", "_law_letter", "_law_goal"]
abbrev P__law_code : List Str := ["_law_pen_here", "_law_letters_here", "_law_most"]
theorem sc__law_code : FnScope N__law_code P__law_code (defScope s__law_code) := ⟨rfl, rfl, rfl, by decide +kernel, rfl, by decide +kernel, by decide +kernel⟩

theorem ok_code {f fD fP fB : Addr} {fd fdD fdP fdB : FuncData} (F : Fun K "_law_code" "_law_code" s__law_code f fd) (T : TxtB K mg fD fP fB) (FD : Fun K "_law_draw" "_law_draw" s__law_draw fD fdD) (b_law_draw : Binds K fdD P__law_draw [])
    (FP : Fun K "_law_pick" "_law_pick" s__law_pick fP fdP) (b_law_pick : Binds K fdP P__law_pick []) (FB : Fun K "_law_bits" "_law_bits" s__law_bits fB fdB) (b_law_bits : Binds K fdB P__law_bits []) : FnOk P w K mg base CX0 4 f fd P__law_code (spCode K) := by
  have G_law_draw : FnOk P w K mg base CX0 1 fD fdD P__law_draw spDraw := ok_draw FD T.toTxtA
  have G_law_bits : FnOk P w K mg base CX0 3 fB fdB P__law_bits spBits := ok_bits FB T.toTxtP FD b_law_draw FP b_law_pick
  refine F.ok sc__law_code (fun vs H Q E h => ?_) (fun cdv A outer s H vs Q E hr h => ?_)
  · obtain ⟨p, c, z, most, n, rfl, _⟩ := h
    rfl
  · obtain ⟨p, c, z, most, n, rfl, hp, hn, hm1, hm2, hz, k⟩ := h
    refine ⟨_, (pss_cons (ps_par (i := 3) (j := 4) (by rfl) sc__law_code.nd rfl rfl (by decide) rfl rfl (pa_cons (pe_op op_add pe_int (pe_call G_law_draw (hr.mono (by decide)) (by rfl) T.m_law_draw T.k_law_draw b_law_draw .nil pass0 (pa_cons (pv 0) (pa_cons (pv 2) pa_nil)))) (pa_cons (pe_lst pa_nil) pa_nil)) (by rfl))
      (pss_cons (ps_for PassesOwn.never rfl (pi_range1 (by rfl) T.range (pa_cons (pv 3) pa_nil)) (pg_name (i := 5) sc__law_code.nd rfl (Or.inl rfl)) (pss_cons (ps_set (i := 6) sc__law_code.nd rfl (Or.inl rfl) (pe_lst pa_nil))
      (pss_cons (ps_for PassesOwn.never rfl (pi_str (pv 1)) (pg_name (i := 7) sc__law_code.nd rfl (Or.inl rfl)) (pss_cons (ps_set (i := 8) sc__law_code.nd rfl (Or.inl rfl) (pe_call G_law_draw (hr.mono (by decide)) (by rfl) T.m_law_draw T.k_law_draw b_law_draw .nil pass0 (pa_cons (pv 0) (pa_cons (pv 3) pa_nil))))
      (pss_one (ps_expr (pe_bm PySem.F.plainAttrs_list PySem.F.slot_list_append PySem.F.type_list_append mt_append (pv 6) (pa_cons (pe_tup (pa_cons (pv 8) (pa_cons (pe_call G_law_bits (hr.mono (by decide)) (by rfl) T.m_law_bits T.k_law_bits b_law_bits .nil pass0 (pa_cons (pv 0) pa_nil)) pa_nil))) pa_nil))))))
      (pss_one (ps_expr (pe_bm PySem.F.plainAttrs_list PySem.F.slot_list_append PySem.F.type_list_append mt_append (pv 4) (pa_cons (pv 6) pa_nil)))))))
      (pss_one (ps_ret (pe_tup (pa_cons (pv 1) (pa_cons (pv 4) (pa_cons (pe_lc (own := [("_law_state", 5)]) (g := gName 5) (by rfl) sc__law_code.nd (pi_range1 (by rfl) T.range (pa_cons (pv 3) pa_nil)) (blkOk_by (own := [("_law_state", 5)]) (N := N__law_code) (sc := defScope s__law_code) (by decide +kernel)) (fun _ _ _ _ _ => pg_name (i := 5) sc__law_code.nd rfl (Or.inl rfl)) (fun _ _ _ _ _ => pts_nil) (fun _ _ _ _ _ => (pe_call G_law_bits (hr.mono (by decide)) (by rfl) T.m_law_bits T.k_law_bits b_law_bits .nil pass0 (pa_cons (pv 0) pa_nil)))) pa_nil)))))))), ?_⟩
    refine ⟨_, rfl, _, rfl, p, c, _, n, rfl, hp, by omega, by omega, by omega, fun d H1 d0 d1 hp1 k1 => ⟨_, _, rfl, rfl, by show 0 ≤ sizeLine; decide, fun R hR => ⟨_, _, rfl, ?_⟩⟩⟩
    obtain ⟨nRp, nRc⟩ := hp1.new hR
    have hRn : H R = none := k1.free hp1 hR
    refine ⟨_, rfl, 1 + d, rfl, by omega, by omega, for_range (n := (1 + d).toNat) (fun i σ H2 => ∃ (rs : List V) (data : List Row) (v5 v6 v7 v8 : Option V), σ = [some (.ref p), some (.str z), some (.int most), some (.int (1 + d)), some (.ref R), v5, v6, v7, v8] ∧
      H2 R = some (.lst rs) ∧ DpAll K (L2.del H2 R) rs (data.map rowD) ∧ data.length = i ∧ (∀ r ∈ data, RowOk z.length (1 + d) r) ∧ Pen H2 p c (n + 1 + i * 104) ∧ Kp p H H2)
      ⟨[], [], none, none, none, none, rfl, upd_same, .nil, rfl, (fun r hr => nomatch hr), hp1.same (same_new hR), k1.trans (Kp.of (same_new hR))⟩ ?_ ?_⟩
    · rintro i σ H2 hi ⟨rs, data, v5, v6, v7, v8, rfl, hR2, hD, hl, hok, hp2, k2⟩
      refine ⟨by show 0 ≤ sizeLine; decide, fun r hr2 => ?_⟩
      have nrR : r ≠ R := (ne_of_none hR2 hr2).symm
      obtain ⟨nrp, nrc⟩ := hp2.new hr2
      have hrn : H r = none := k2.free hp2 hr2
      have e0 : Kl (L2.del H2 R) (L2.del (L2.del (L2.upd H2 r (.lst [])) R) r) := fun b o e _ => by
        obtain ⟨h1, h2⟩ := del_some e
        have h3 : b ≠ r := ne_of_none h2 hr2
        rw [del_ne h3, del_ne h1, upd_ne h3]
        exact h2
      refine ⟨_, rfl, z, rfl, for_it walk_strS (fun j σ H3 => ∃ (ts : List V) (row : Row) (v7 v8 : Option V), σ = [some (.ref p), some (.str z), some (.int most), some (.int (1 + d)), some (.ref R), some (.int (0 + i)), some (.ref r), v7, v8] ∧
        H3 R = some (.lst rs) ∧ H3 r = some (.lst ts) ∧ DpAll K (L2.del (L2.del H3 R) r) rs (data.map rowD) ∧ DpAll K (L2.del (L2.del H3 R) r) ts (row.map tupD) ∧ row.length = j ∧ (∀ gb ∈ row, 0 ≤ gb.1 ∧ gb.1 < 1 + d ∧ 0 ≤ gb.2 ∧ gb.2 < 100) ∧ Pen H3 p c (n + 1 + i * 104 + j * 4) ∧ Kp p H H3)
        ⟨[], [], v7, v8, rfl, by rw [upd_ne nrR.symm]; exact hR2, upd_same, hD.mv e0, .nil, rfl, (fun r hr => nomatch hr), hp2.same (same_new hr2), k2.trans (Kp.of (same_new hr2))⟩ (fun _ _ _ _ _ => trivial) ?_ ?_⟩
      · rintro j x σ H3' H3 hj ⟨ts, row, v7, v8, rfl, hR3, hr3, hD1, hD2, hl2, hok2, hp3, k3⟩ ⟨rfl, cc, hcc, rfl⟩
        refine ⟨_, rfl, _, rfl, p, c, _, _, rfl, hp3, by omega, by omega, by omega, fun g H4 g0 g1 hp4 k4 => ?_⟩
        obtain ⟨kvs, hpk⟩ := hp3.dk
        have hR4 := k4 _ _ hR3 nRp
        have hr4 := k4 _ _ hr3 nrp
        refine ⟨_, rfl, Or.inl ⟨rfl, _, SqL.of hr4⟩, _, rfl, _, rfl, p, c, _, rfl, hp4, by omega, fun b H5 b0 b1 hp5 k5 => ⟨by show 2 ≤ sizeLine; decide, fun q hq => ?_⟩⟩
        have hr5 := k5 _ _ hr4 nrp
        have hR5 := k5 _ _ hR4 nRp
        have nqr : q ≠ r := (ne_of_none hr5 hq).symm
        have nqR : q ≠ R := (ne_of_none hR5 hq).symm
        refine ⟨r, ts, .ref q, rfl, rfl, by rw [upd_ne nqr.symm]; exact hr5, ?_, ?_⟩
        · rw [hD2.length, List.length_map]
          exact small1000 (by omega)
        have e1 : Kl (L2.del (L2.del H3 R) r) (L2.del (L2.del (L2.upd (L2.upd H5 q (.tup [.int g, .int b])) r (.lst (ts ++ [.ref q]))) R) r) :=
          (((Kl.kp (k4.trans k5) hpk).del R).del r).trans fun c o e _ => by
            obtain ⟨h1, h2⟩ := del_some e
            obtain ⟨h3, h4⟩ := del_some h2
            rw [del_ne h1, del_ne h3, upd_ne h1, upd_ne (ne_of_none h4 hq)]
            exact h4
        refine ⟨ts ++ [.ref q], row ++ [(g, b)], _, _, rfl, ?_, upd_same, hD1.mv e1, ?_, ?_, ?_, ?_, ?_⟩
        · rw [upd_ne nrR.symm, upd_ne nqR.symm]; exact hR5
        · rw [List.map_append]
          refine (hD2.mv e1).snoc (.tup (SqT.of ?_) (.cons (.int g) (.cons (.int b) .nil)))
          rw [del_ne nqr, del_ne nqR, upd_ne nqr, upd_same]
        · rw [List.length_append, hl2]; rfl
        · intro gb hgb
          rcases List.mem_append.mp hgb with h | h
          · exact hok2 gb h
          · rw [List.mem_singleton.mp h]; exact ⟨g0, g1, b0, b1⟩
        · exact ((hp5.same (same_new hq)).put nrp nrc).mono (by omega)
        · exact (((k3.trans k4).trans k5).trans (Kp.of (same_new hq))).put hrn
      · rintro σ H3 ⟨ts, row, v7, v8, rfl, hR3, hr3, hD1, hD2, hl2, hok2, hp3, k3⟩
        refine ⟨_, rfl, Or.inl ⟨rfl, _, SqL.of hR3⟩, _, rfl, R, rs, .ref r, rfl, rfl, hR3, ?_, ?_⟩
        · rw [hD1.length, List.length_map, hl]
          exact small1000 (by omega)
        refine ⟨rs ++ [.ref r], data ++ [row], _, _, _, _, rfl, upd_same, ?_, ?_, ?_, ?_, ?_⟩
        · rw [del_upd, List.map_append]
          refine (hD1.mv (Kl.undel _ _)).snoc (.lst (SqL.of ?_) (hD2.mv (Kl.undel _ _)))
          rw [del_ne nrR]; exact hr3
        · rw [List.length_append, hl]; rfl
        · intro y hy
          rcases List.mem_append.mp hy with h | h
          · exact hok y h
          · rw [List.mem_singleton.mp h]; exact ⟨hl2, hok2⟩
        · exact (hp3.put nRp nRc).mono (by omega)
        · exact k3.put hRn
    · rintro σ H2 ⟨rs, data, v5, v6, v7, v8, rfl, hR2, hD, hl, hok, hp2, k2⟩
      refine ⟨_, rfl, _, rfl, _, rfl, 1 + d, rfl, by omega, by omega, fun D hD0 => lc_range (n := (1 + d).toNat) (fun j H3 => ∃ es : List Int, H3 D = some (.lst (es.map V.int)) ∧ es.length = j ∧ (∀ e ∈ es, 0 ≤ e ∧ e < 100) ∧
        H3 R = some (.lst rs) ∧ DpAll K (L2.del (L2.del H3 R) D) rs (data.map rowD) ∧ Pen H3 p c (n + 1 + (1 + d).toNat * 104 + j * 3) ∧ Kp p H H3)
        ⟨[], upd_same, rfl, (fun e he => nomatch he), ?_, ?_, hp2.same (same_new hD0), k2.trans (Kp.of (same_new hD0))⟩ ?_ ?_⟩
      · rw [upd_ne (ne_of_none hR2 hD0)]; exact hR2
      · refine hD.mv fun b o e _ => ?_
        obtain ⟨h1, h2⟩ := del_some e
        have h3 : b ≠ D := ne_of_none h2 hD0
        rw [del_ne h3, del_ne h1, upd_ne h3]
        exact h2
      · rintro j H3 hj ⟨es, hD3, hl3, hok3, hR3, hDp, hp3, k3⟩
        obtain ⟨nDp, nDc⟩ := hp2.new hD0
        have hDn : H D = none := k2.free hp2 hD0
        have nDR : D ≠ R := (ne_of_none hR2 hD0).symm
        refine ⟨rfl, ?_⟩
        refine lcYes ?_
        refine ⟨_, rfl, p, c, _, rfl, hp3, by omega, fun b H4 b0 b1 hp4 k4 => ⟨es.map V.int, k4 _ _ hD3 nDp, ?_, es ++ [b], ?_, ?_, ?_, ?_, ?_, ?_, ?_⟩⟩
        · rw [List.length_map, hl3]; exact small1000 (by omega)
        · rw [upd_same, List.map_append]; rfl
        · rw [List.length_append, hl3]; rfl
        · intro y hy
          rcases List.mem_append.mp hy with h | h
          · exact hok3 y h
          · rw [List.mem_singleton.mp h]; exact ⟨b0, b1⟩
        · rw [upd_ne nDR.symm]; exact k4 _ _ hR3 nRp
        · obtain ⟨kvs, hpk⟩ := hp3.dk
          refine hDp.mv ((((Kl.kp k4 hpk).del R).del D).trans fun b o e _ => ?_)
          obtain ⟨h1, h2⟩ := del_some e
          rw [del_ne h1] at e ⊢
          obtain ⟨h3, h4⟩ := del_some h2
          rw [del_ne h3, upd_ne h1]
          exact h4
        · exact (hp4.put nDp nDc).mono (by omega)
        · exact (k3.trans k4).put hDn
      · rintro H3 ⟨es, hD3, hl3, hok3, hR3, hDp, hp3, k3⟩
        refine ⟨by show 3 ≤ sizeLine; decide, fun t ht => ?_⟩
        have st : Same H3 (L2.upd H3 t (.tup [.str z, .ref R, .ref D])) := same_new ht
        have nRD : R ≠ D := ne_of_none hR2 hD0
        refine k t D (.ref R) data es _ (k2.free hp2 hD0) upd_same (.lst (SqL.of (by rw [del_ne nRD]; exact st _ _ hR3)) (hDp.mv fun b o e _ => ?_)) (st _ _ hD3) ⟨?_, ?_, fun r hr => ?_, hok3⟩ ?_ ?_ ?_
        · obtain ⟨h1, h2⟩ := del_some e
          obtain ⟨h3, h4⟩ := del_some h2
          rw [del_ne h1]
          exact st _ _ h4
        · rw [hl3, hl]
        · omega
        · obtain ⟨h1, h2⟩ := hok r hr
          refine ⟨h1, fun gb hgb => ?_⟩
          obtain ⟨a1, a2, a3, a4⟩ := h2 gb hgb
          exact ⟨a1, by omega, a3, a4⟩
        · omega
        · exact (hp3.same st).mono (by omega)
        · exact k3.trans (Kp.of st)
end
end Vf
set_option Elab.async false
set_option linter.all false
set_option maxRecDepth 100000
set_option maxHeartbeats 4000000
/-! str(x) by an own __str__; x op y by an own def, y a text -/
namespace Vf
open PySem PySem.Spec PyProof.Rows L2
section
variable {X : Cx} {CX : CXT} {n : Nat} {C f : Addr} {fd : FuncData} {ps : List Str} {sp : Sp} {E : XK}
def rStrI (C : Addr) (sp : Sp) (E : XK) : List V → Hp → VK → Prop := fun xs H Q => ∃ a dx fs, xs = [.ref a] ∧ H a = some (.ins C dx fs) ∧ sp [.ref a] H (fun z H' => ∃ y, z = .str y ∧ Q (.str y) H') E
theorem call_strI (hs : PySem.W.findIn X.K (.ref C) "__str__" = some (some (.ref f))) (hf : PySem.W.isFn X.K (.ref f) = true) (F : FnOk X.prog X.w X.K X.mg X.base CX n f fd ps sp)
    (hr : Room (n + 2) X.A) (hb : Binds X.K fd ps []) (hx : Passes CX X E) : CallR X (.type "str") (rStrI C sp E) := by
  intro pins s σ H xs us Q I r h
  obtain ⟨a, dx, fs, rfl, ha, q⟩ := h
  obtain ⟨u, rfl, ru⟩ := vals1 r
  cases (show u = Value.ref a from ru)
  obtain ⟨mA, J, _⟩ := ins_get I.hok ha
  obtain ⟨od, J, _⟩ := J.look
  refine callType_newIn PySem.F.called_str (by decide) (PySem.F.typeCall_str_1 _) (PySem.F.newCall_str_1 _) (fun obj => PySem.F.args_object_init_2 obj _) PySem.F.entry_str_new
    (S := fun A R s' => s' = s ∧ Sub X (n + 1) A ∧ (∀ y t s1 H', Inv X pins σ H' s1 → Q (.str y) H' → R (.ok (.ret (.str y t))) s1) ∧ ∀ e s1, X.xe e s1 → R (.error e) s1)
    (.of_wp fun A R s' hS => ?_) ⟨rfl, ⟨hr.in1, rfl⟩, fun y t s1 H' I1 q1 => ⟨typeIs_str _ _ _, .str y, H', I1, ⟨t, rfl⟩, q1⟩, fun e s1 z => z⟩
  obtain ⟨rfl, sb, h1, h2⟩ := hS
  rw [str_new_tree]
  refine wpAny_bind (wpAny_pure (wpAny_bind (wpAny_of_eq isSubtype_str_str (wpAny_bind ?_))))
  unfold Builtin.Str.strOf
  rw [if_neg (show ¬ Builtin.Str.isExactStr (.ref a) = true from Bool.false_ne_true)]
  refine wpAny_bind (wpAny_cRoomFor (by have := sb.room.un; show A.units + 1 < cLine; omega) (wpAny_bind (m := callSpecial? (.ref a) (PySem.Str.ofString "__str__")) (PySem.W.special_fn I.kIn J hs (beq_iff_eq.mp hf) ?_)))
  refine wpAny_mono (run_ok (us := [.ref a]) (ws := [.ref a]) F hb hx sb.in1 I (.cons rfl .nil) q) (fun w s1 z => ?_) (fun e s1 z => h2 e s1 z)
  obtain ⟨z', H', I1, rz, y, rfl, qy⟩ := z
  obtain ⟨t, rfl⟩ := (show ∃ t, w = Value.str y t from rz)
  refine wpAny_bind (m := asStr? (.str y t)) (wpAny_pure ?_)
  show wpAny _ _ (pure (Value.str y t)) _ _ _
  exact wpAny_pure (wpAny_pure ⟨_, rfl, h1 y t s1 H' I1 qy⟩)
/-- x op y, y a text -/
def rOwnS (C : Addr) (sp : Sp) (E : XK) : R2 := fun x y H Q => ∃ a dx fs z, x = .ref a ∧ y = .str z ∧ H a = some (.ins C dx fs) ∧ sp [x, y] H Q E
theorem op_ownS {op : CmpOp} (hop : ∀ a b, compareOp op a b = richCompare op a b) (hs : PySem.W.findIn X.K (.ref C) (cmpInfo op).2.1 = some (some (.ref f))) (hf : PySem.W.isFn X.K (.ref f) = true) (F : FnOk X.prog X.w X.K X.mg X.base CX n f fd ps sp)
    (hr : Room n X.A) (hb : Binds X.K fd ps []) (hx : Passes CX X E) (hn : PySem.W.subIn X.K (.type "str") (.ref C) = some false) : OpR X (compareOp op) (rOwnS C sp E) := by
  intro pins s σ H x y v u Q I rx ry h
  obtain ⟨a, dx, fs, z, rfl, rfl, ha, q⟩ := h
  cases (show v = Value.ref a from rx)
  obtain ⟨t, rfl⟩ := (show ∃ t, u = Value.str z t from ry)
  obtain ⟨mA, J, _⟩ := ins_get I.hok ha
  obtain ⟨od, J, _⟩ := J.look
  obtain ⟨m, hF⟩ := I.fr
  have J' : PySem.W.Looks (model X.prog X.w) s.heap (typeOf (.str z t)) (.type "str") := .of_pure rfl
  rw [hop]
  refine PySem.W.cmp_K (op := op) (tb := .type "str") hr.units0 hF I.ok.mod.kin J J' (by simp [PySem.W.notFirst, hn]) hs hf ?_
  refine wpAny_mono (run_ok (us := [.ref a, .str z t]) (ws := [.ref a, .str z]) F hb hx ⟨hr, rfl⟩ I (.cons rfl (.cons ⟨t, rfl⟩ .nil)) q) (fun w s' z => ?_) fun _ _ x => x
  obtain ⟨z', H', I', rz, qz⟩ := z
  exact SlX.cmpback rz ⟨z', H', I', rz, qz⟩
end
/-- a dict comprehension over any walk -/
theorem dc_it {J : It} {n : Nat} {G : Hp → Prop} {Y : Nat → Hp → V → Hp → Prop} (w : Walk J n G Y) {g : TG} {tt : TT} {tk tv : TE} {vs : List Nat} {σ : L2.St} {H1 : Hp} {D : Addr} {Qd : Hp → Prop} (Pv : Nat → Hp → Prop) (h0 : Pv 0 (L2.upd H1 D (.dK []))) (hG : ∀ i H, i ≤ n → Pv i H → G H)
    (hs : ∀ i x H H', i < n → Pv i H → Y i H x H' → g x (wipe σ vs) H' fun σ2 H2 => wipe σ2 vs = wipe σ vs ∧ tt σ2 H2 fun b H3 =>
      if b = true then tk σ2 H3 fun y H4 => tv σ2 H4 fun z H5 => ∃ kvs k, y = kV k ∧ H5 D = some (.dK kvs) ∧ kvs.length < sizeLine ∧ Pv (i + 1) (L2.upd H5 D (.dK (putK kvs k z))) else Pv (i + 1) H3) (hd : ∀ H, Pv n H → Qd H) :
    ∃ W : Nat → Nat → Hp → Prop, (∃ m, W 0 m (L2.upd H1 D (.dK []))) ∧ ∀ i m H, W i m H →
      (J.stop i H ∧ Qd H) ∨ (J.go i H ∧ ∃ Nx : Hp → Prop, (∀ H', Nx H' → ∃ m', m' < m ∧ W (i + 1) m' H') ∧ ∀ x H', J.yld i H x H' → g x (wipe σ vs) H' fun σ2 H2 => wipe σ2 vs = wipe σ vs ∧ tt σ2 H2 fun b H3 =>
        if b = true then tk σ2 H3 fun y H4 => tv σ2 H4 fun z H5 => ∃ kvs k, y = kV k ∧ H5 D = some (.dK kvs) ∧ kvs.length < sizeLine ∧ Nx (L2.upd H5 D (.dK (putK kvs k z))) else Nx H3) := by
  refine ⟨fun i m H => m = n - i ∧ i ≤ n ∧ Pv i H, ⟨n, by simp, Nat.zero_le _, h0⟩, ?_⟩
  rintro i m H ⟨rfl, hi, p⟩
  have q := hG i H hi p
  by_cases hlt : i < n
  · refine .inr ⟨w.goes i H hlt q, Pv (i + 1), fun H' p' => ⟨n - (i + 1), by omega, rfl, hlt, p'⟩, fun x H' y => hs i x H H' hlt p (w.yields i H x H' hlt q y)⟩
  · have e : i = n := by omega
    subst e
    exact .inl ⟨w.stops H q, hd H p⟩
section
variable {X : Cx}
theorem sw_dc {kx vx : Expr} {gs : List Comprehension} {scope : Scope} {pos py : Pos} {y : Str} {l : Nat} {env : Env} (hk : env.scope.kind = .function) (hy : env.scope.names.lookup y = some .local) (hl : (py.line == pos.line) = true)
    (ha : (scope.names.any fun (n, k) => n == y && (k == .local || k == .cell)) = false) : swapsWith (.DictComp kx vx gs scope pos) (some (.Name y py)) l env = pure true := by
  have ky : env.kindOf y = some .local := hy
  have hb : env.blockKind = .function := by unfold Env.blockKind; rw [hk]; rfl
  unfold swapsWith
  simp only [hb, ky, ha, Expr.pos, hl]
  rfl
/-- name = a dict comprehension, the name a local -/
theorem ps_setDc {i : Nat} {y : Str} {py : Pos} {kx vx tg iter : Expr} {ifs : List Expr} {scope : Scope} {own : List (Str × Nat)} {pos spos : Pos} {wi : TI} {g : TG} {tt : TT} {tk tv : TE} (hc : X.calm = true) (hN : X.N.Nodup) (hy : X.N[i]? = some y) (hyl : X.env.scope.names.lookup y = some .local)
    (hsw : swapsWith (.DictComp kx vx [⟨tg, iter, ifs, 0⟩] scope pos) (some (.Name y py)) spos.line X.env = pure true) (hi : PI X tg iter wi) (ok : BlkOk X.N X.env.scope scope own)
    (hg : ∀ (s : Shared) (H : Hp) (C : Addr) (cl : List (Str × Addr)) (fp : List Addr), PG (X.blk s H scope (compEnvC scope cl C X.env) fp) tg g) (ht : ∀ (s : Shared) (H : Hp) (C : Addr) (cl : List (Str × Addr)) (fp : List Addr), PTs (X.blk s H scope (compEnvC scope cl C X.env) fp) ifs tt)
    (hk : ∀ (s : Shared) (H : Hp) (C : Addr) (cl : List (Str × Addr)) (fp : List Addr), PE (X.blk s H scope (compEnvC scope cl C X.env) fp) kx tk)
    (he : ∀ (s : Shared) (H : Hp) (C : Addr) (cl : List (Str × Addr)) (fp : List Addr), PE (X.blk s H scope (compEnvC scope cl C X.env) fp) vx tv) (hs : ∀ x, foldedSetIterable iter X.env x = pure x := by intro _; rfl) :
    PS X (.Assign [.Name y py] (.DictComp kx vx [⟨tg, iter, ifs, 0⟩] scope pos) spos) (tAsg (tDc wi g tt tk tv (own.map (·.2))) (gName i)) := by
  refine ⟨fun pins s σ H D I h => ?_⟩
  rw [exec_Assign_Name_used _ _ _ _ hsw]
  refine wpAny_bind (wpAny_standAt (wpAny_bind ?_))
  have h : tDc wi g tt tk tv (own.map (·.2)) σ H (fun x H1 => gName i x σ H1 D.nx) := h
  refine wpAny_bind (thn (dc_core (use := some (assign (.Name y py) X.env)) (pos' := firstIterPos [⟨tg, iter, ifs, 0⟩] pos) (Qf := fun _ s' => SP X pins D .next s') hc hN I hi ok hg ht hk he hs h fun L C s' m H' I' q hn f => ?_) fun _ s' hq => wpAny_pure (wpAny_pure hq))
  show wpAny _ _ (assign (.Name y py) X.env (.ref L)) _ _ _
  refine wpAny_assign_Name (store_ok2 (v := V.ref L) I' hN hy (.inl hyl) rfl (fun s2 I2 ⟨a, sb, ha⟩ => ?_) (.inr hyl))
  obtain ⟨f0, f1, f2, f3, f4, f5⟩ := f
  have haC : C ≠ a := by
    rcases ha with z | z
    · rw [z]; exact f1
    · exact fun e => f4 y a z e.symm
  exact ⟨m, hn.sameBut sb haC, fun h3 sb3 => ⟨_, H', I2.turned (t' := s2.toks) (fun b o hb e => (sb3.2 b hb).trans e) f0 f1 f3 f4 f5, q⟩⟩
end
end Vf
set_option Elab.async false
set_option linter.all false
set_option maxRecDepth 100000
set_option maxHeartbeats 4000000
/-! enumerate(a list, start=k); C(..) where C is what a variable holds -/
namespace Vf
open PySem PySem.Spec PyProof.Rows L2
/-- cls(e, ..): the class in a variable -/
def tMakeC (i : Nat) (C : Addr) (sp : Sp) (dvs : List V) (E : XK) (t : TA) : TE := fun σ H Q => σ[i]? = some (some (.ref C)) ∧ tMake C sp dvs E t σ H Q
section
variable {X : Cx} {CX : CXT} {k i : Nat} {C f : Addr} {fd : FuncData} {ps : List Str} {dvs : List V} {ds : List Value} {sp : Sp} {E : XK} {x : Str} {e : Expr} {es : List Expr} {t : TA} {p pos : Pos}
theorem pe_makeC (M : Mk X.K C f) (F : FnOk X.prog X.w X.K X.mg X.base CX k f fd ps sp) (hr : Room (k + 1) X.A) (hN : X.N[i]? = some x) (hv : Vis X.env.scope x) (hb : Binds X.K fd ps ds) (hd : Vals dvs ds) (hx : Passes CX X E) (ha : PA X (e :: es) t)
    (hdb : (x == ("__debug__" : Str)) = false := by decide) (hcd : (x == ("__classdict__" : Str)) = false := by decide)
    (he : starEach (e :: es) X.env = (false, eval e X.env) :: starEach es X.env := by rfl) (hpl : (backTo pos (starEach es X.env)).any (·.1) = false := by rfl) : PE X (.Call (.Name x p) (e :: es) [] pos) (tMakeC i C sp dvs E t) := by
  refine ⟨fun pins s σ H Q I h => ?_⟩
  obtain ⟨hs, h⟩ := h
  refine wpAny_Call_Name_kw (thn ((pe_var (pos := p) (i := i) hN hv hdb hcd).run pins s σ H (fun v H1 => v = .ref C ∧ H1 = H) I ⟨.ref C, hs, rfl, rfl⟩) fun u s1 ⟨v, H1, I1, r1, ev, eH⟩ => ?_)
  subst ev
  rw [eH] at I1
  cases r1
  refine PySem.W.callWith_K (h₀ := X.base) I.ok.mod.kin M.kp (thn (ha.run pos pins s1 σ H _ I1 h) fun us s2 ⟨vs, H2, I2, r, q⟩ => ⟨I2.kIn, ?_⟩) he hpl
  exact run_make M F hr hb hd hx I2 r q
end
section
variable {M : Model} {A : Around} {E : Value → Shared → Prop} {s : Shared}
theorem callWith_typeKw {pos : Pos} {T : String} {args : List (Bool × Sem Value)} {keywords : List (Option Str × Sem Value)} {Q : Value → Shared → Prop} (hplain : args.any (·.1) = false) (hkw : keywords.any (·.1.isNone) = false)
    (h : wpAny M A (evalArgs (.type T) true args keywords) (fun a s1 => wpAny M A (call (.type T) a.pos a.kw) Q E s1) E s) : wpAny M A (callWith pos (.type T) [] args keywords) Q E s := by
  unfold callWith
  refine wpAny_bind (wpAny_holding (wpAny_mono h (fun a s1 h1 => wpAny_bind (wpAny_standAt ?_)) fun _ _ x => x))
  simp only [hplain, hkw, Bool.or_false]
  refine wpAny_bind (wpAny_pure ?_)
  exact wpAny_bind (wpAny_mono h1 (fun r s2 hr => wpAny_bind (wpAny_holding (wpAny_point (wpAny_pure hr)))) fun _ _ x => x)
end
/-- the list at a, each item in a new pair behind its number, counted from n -/
def Ites (K : PySem.W.Frag) (a : Addr) (n : Nat) : It :=
  ⟨fun i H => ∃ (xs : List V) (x : V), SqL K H a xs ∧ xs[i]? = some x, fun i H v H' => ∃ T x, v = .ref T ∧ H T = none ∧ H' = L2.upd H T (.tup [.int ((n + i : Nat) : Int), x]) ∧ ∀ xs, SqL K H a xs → xs[i]? = some x, fun i H => ∃ xs : List V, SqL K H a xs ∧ xs.length ≤ i⟩
theorem drawsEndL {prog : Program} {w : World} {A : Around} (hh : A.handled = none) (it t : Addr) (items : Array Value) (i : Nat) (hi : items[i]? = none) :
    Draws prog w A it [it, t] i (fun _ _ => False) (fun j h => j = i ∧ h.IsListIter it t j ∧ h.IsList t items) where
  live := fun _ _ st => let ⟨o, ho, _⟩ := st.2.1; ⟨o, ho⟩
  frame := fun _ _ _ st hk => ⟨st.1, st.2.1.at fun o e => hk it (by simp) o e, st.2.2.at fun o e => hk t (by simp) o e⟩
  item := fun j s Q E hj st hQ => absurd st.1 (Nat.ne_of_lt hj)
  done := fun s Q E st hE => wpAny_nextOf_list_end hh st.2.1 st.2.2 hi hE
theorem turn_enumN {P : Program} {w : World} {K : PySem.W.Frag} {elts : List Expr} {kk : Nat} {tpos : Pos} (n : Nat) (a e it : Addr) :
    Turn P w K (.Tuple elts kk tpos) (Ites K a n) [e, it] e (fun i h => (∃ old, IsEnum h e it ((n + i : Nat) : Int) old) ∧ h.IsListIter it a i ∧ e ≠ it) where
  mem := by simp
  obj := fun i h st b hb => by
    obtain ⟨⟨old, he⟩, ⟨o, ho, hc, hd⟩, _⟩ := st
    rcases (show b = e ∨ b = it by simpa using hb) with z | z
    · rw [z]; exact ⟨_, he, fun v q => nomatch q⟩
    · rw [z]; exact ⟨o, ho, fun v q => by rw [hd] at q; cases q⟩
  keep := fun i h h' st k => let ⟨⟨old, he⟩, hi, hne⟩ := st; ⟨⟨old, k e (by simp) _ he⟩, hi.at fun o q => k it (by simp) o q, hne⟩
  item := by
    intro X hP hw hK hc i pins s σ H E I hf st hg
    subst hP hw hK
    obtain ⟨⟨old, he⟩, hit, hne⟩ := st
    obtain ⟨xs, x, hq, hx⟩ := hg
    obtain ⟨its, rv, p, hz⟩ := I.list hq
    obtain ⟨u, hu, ru⟩ := rv.get hx
    have hel : e < s.heap.objs.size := Heap.lt_size he
    have hil : it < s.heap.objs.size := by obtain ⟨_, q, _⟩ := hit; exact Heap.lt_size q
    have hae : a ≠ e := fun z => by
      obtain ⟨o, ho, hc, _⟩ := p.isList
      rw [z] at ho
      have : o = _ := Option.some.inj (ho.symm.trans he)
      rw [this] at hc
      exact absurd (Value.type.inj hc) (by decide)
    have hai : a ≠ it := fun z => by
      obtain ⟨o, ho, hc, _⟩ := p.isList
      obtain ⟨o2, ho2, hc2, _⟩ := hit
      rw [z] at ho
      rw [Option.some.inj (ho.symm.trans ho2), hc2] at hc
      exact absurd (Value.type.inj hc) (by decide)
    have D := Draws.list (prog := X.prog) (w := X.w) (A := X.A.in1) (show X.A.in1.handled = none from I.ok.hd hc) it a hai its.toArray
    have hlt : i < its.toArray.size := by
      obtain ⟨h, _⟩ := List.getElem?_eq_some_iff.mp hu
      simpa using h
    refine wpAny_pyNext_enum_itemC D he ⟨hit, p.isList⟩ hlt hne (by simp [hne, Ne.symm hae]) fun y h' tk hy ho hit' hT hsz hk => ?_
    obtain rfl : u = y := by
      have : its.toArray[i]? = some u := by simpa using hu
      exact Option.some.inj (this.symm.trans hy)
    refine ⟨_, rfl, wpAny_letOwnedTupleGo_enum (s := { s with heap := h', toks := tk + 1 }) ho fun h'' he' sb => ?_⟩
    have hT2 : h''.get? s.heap.objs.size = some { cls := .type "tuple", data := .seq #[.int ((n + i : Nat) : Int) tk, u] } := (sb.2 _ (Nat.ne_of_gt hel)).trans hT
    have new : ObjOk X.prog X.w (L2.upd H s.heap.objs.size (.tup [.int ((n + i : Nat) : Int), x])) h'' s.heap.objs.size (.tup [.int ((n + i : Nat) : Int), x]) :=
      ⟨by show 2 ≤ sizeLine; decide, [.int ((n + i : Nat) : Int) tk, u], .cons ⟨_, rfl⟩ (.cons ru .nil), ⟨_, hT2, rfl, _, rfl⟩⟩
    have I1 : Inv X pins σ (L2.upd H s.heap.objs.size (.tup [.int ((n + i : Nat) : Int), x])) { s with heap := h'', toks := tk + 1 } :=
      I.turnedNew (ch := [e, it]) (fun b ob hb q => (sb.2 b (fun z => hb (by simp [z]))).trans (hk b ob (fun z => hb (by simp [z])) (fun z => hb (by simp [z])) q)) hf (Nat.le_refl _) new
    refine ⟨.ref s.heap.objs.size, _, I1, rfl, ⟨_, x, rfl, I.hok.fresh (Nat.le_refl _), rfl, fun ys hy => by rw [I.list_inj hy hq]; exact hx⟩, ⟨⟨u, ?_⟩, hit'.1.at fun o q => (sb.2 it (Ne.symm hne)).trans q, hne⟩, fun b hb => ?_⟩
    · have e1 : ((n + (i + 1) : Nat) : Int) = ((n + i : Nat) : Int) + 1 := by omega
      rw [e1]; exact he'
    · have hb' : b < s.heap.objs.size := by
        rcases (show b = e ∨ b = it by simpa using hb) with z | z
        · rw [z]; exact hel
        · rw [z]; exact hil
      rw [upd_ne (Nat.ne_of_lt hb')]
      exact (hf b hb).1
  done := by
    intro X hP hw hK hc i pins s σ H E I hf st hg
    subst hP hw hK
    obtain ⟨⟨old, he⟩, hit, hne⟩ := st
    obtain ⟨xs, hq, hx⟩ := hg
    obtain ⟨its, rv, p, hz⟩ := I.list hq
    obtain ⟨f0, f1, f2, f3, f4, f5⟩ := hf it (by simp)
    have hl := rv.length
    have D := drawsEndL (prog := X.prog) (w := X.w) (A := X.A.in1) (show X.A.in1.handled = none from I.ok.hd hc) it a its.toArray i (by simp; omega)
    exact wpAny_pyNext_enum_endD D he ⟨rfl, hit, p.isList⟩ fun h' eb => ⟨rfl, I.turned (t' := s.toks) (fun b o hb q => eb b o hb q) f0 f1 f3 f4 f5⟩
  self := fun A i s Q E st h => let ⟨⟨_, he⟩, _⟩ := st; wpAny_pyIter_enum he h
theorem walk_enumN {K : PySem.W.Frag} {a : Addr} {xs : List V} {n : Nat} : Walk (Ites K a n) xs.length (fun H => SqL K H a xs) (fun i H v H' => ∃ T x, v = .ref T ∧ H T = none ∧ H' = L2.upd H T (.tup [.int ((n + i : Nat) : Int), x]) ∧ xs[i]? = some x) :=
  ⟨fun i H hi h => ⟨xs, _, h, List.getElem?_eq_getElem hi⟩, fun H h => ⟨xs, h, Nat.le_refl _⟩, fun i H v H' hi h y => by obtain ⟨T, x, h1, h2, h3, h4⟩ := y; exact ⟨T, x, h1, h2, h3, h4 xs h⟩⟩
def iEnumN (K : PySem.W.Frag) (n : Nat) (ta tk : TA) : TI := fun σ H R => ta σ H fun vs H1 => tk σ H1 fun ws H2 => ∃ a xs, vs = [.ref a] ∧ ws = [.int (n : Nat)] ∧ SqL K H2 a xs ∧ R (Ites K a n) H2
theorem pi_enumN {X : Cx} {e ek : Expr} {ta tk : TA} {p pos tpos kp : Pos} {elts : List Expr} {kk n : Nat} (hn : n < 2 ^ 62) (hg : Gl X "enumerate") (hm : X.mg "enumerate" = none) (ha : PA X [e] ta) (hkw : PK X [⟨some "start", ek, kp⟩] tk) (hs : starEach [e] X.env = [(false, eval e X.env)] := by rfl) :
    PI X (.Tuple elts kk tpos) (.Call (.Name "enumerate" p) [e] [⟨some "start", ek, kp⟩] pos) (iEnumN X.K n ta tk) := by
  refine ⟨fun pins s σ H R I h => ?_⟩
  refine wpAny_Call_Name_kw (ld_blt I hg hm boot_enumerate ?_)
  have key := ha.run pos pins s σ H _ I h
  rw [hs] at key ⊢
  refine callWith_typeKw rfl rfl (evalArgs_kwB rfl (thn key fun us s1 ⟨vs, H1, I1, r1, q1⟩ => ?_))
  refine thn (hkw.run pos pins s1 σ H1 _ I1 q1) fun ws s2 ⟨zs, H2, I2, rz, q2⟩ => ?_
  obtain ⟨a, xs, ex, ez, hq, q⟩ := q2
  subst ex
  subst ez
  cases r1 with
  | cons r rr =>
    cases rr
    cases r
    cases rz with
    | cons rk rr =>
      cases rr
      obtain ⟨t, rfl⟩ := rk
      obtain ⟨its, rv, p', hz⟩ := I2.list hq
      refine enum_begins_start (begins_list a its.toArray) p'.isList (by omega) (by omega) fun h' he hit hsz hk => wpAny_pyIter_enum he ?_
      have I3 : Inv X pins σ H2 { s2 with heap := h' } := I2.kept (t' := s2.toks) hk
      refine ⟨s2.heap.objs.size + 1, [s2.heap.objs.size + 1, s2.heap.objs.size], _, _, H2, rfl, I3, turn_enumN n a (s2.heap.objs.size + 1) s2.heap.objs.size, ⟨⟨.none, he⟩, ⟨_, hit, rfl, rfl⟩, Nat.succ_ne_self _⟩, fun b hb => ?_, q⟩
      have hle : s2.heap.objs.size ≤ b := by
        rcases (show b = s2.heap.objs.size + 1 ∨ b = s2.heap.objs.size by simpa using hb) with z | z
        · rw [z]; exact Nat.le_add_right _ _
        · rw [z]; exact Nat.le_refl _
      exact I2.fpOk hle (I2.hok.fresh hle)
section
variable {X : Cx} {a : Expr} {ta : TE}
/-- the truth of a text -/
def tTxt (ta : TE) : TT := fun σ H Q => ta σ H fun x H' => ∃ y : Str, x = .str y ∧ y.length ≤ sizeLine ∧ Q (decide (TL.tl y ≠ [])) H'
theorem pt_txt (ha : PE X a ta) (he : ∀ whole, isTrue a X.env whole = (do let v ← whole; standAt a.pos; holding [v] (truthy v)) := by intro _; rfl) : PT X a (tTxt ta) := by
  refine ⟨fun pins s σ H Q I h => ?_⟩
  refine isTrue_plain (thn (ha.run pins s σ H _ I h) fun v s1 ⟨x, H1, I1, r1, q1⟩ => ?_) (he _)
  obtain ⟨y, rfl, hz, q⟩ := q1
  refine tru_ok pins s1 σ H1 (.str y) v Q I1 r1 ⟨decide (TL.tl y ≠ []), ⟨hz, ?_⟩, q⟩
  rw [Bool.eq_iff_iff, decide_eq_true_eq, bne_iff_ne, ← List.length_pos_iff, ← TL.len_tl]
  omega
end
end Vf
set_option Elab.async false
set_option linter.all false
set_option maxRecDepth 100000
set_option maxHeartbeats 4000000
/-! sets of keys of one kind, made out of a text or a list, counted, sorted -/
namespace Vf
open PySem PySem.Spec L2 PyProof.Rows
/-- keys of one kind, with their values -/
structure SK (P : Program) (w : World) (κ : Type) [DecidableEq κ] where
  knd : PySem.KeyKind P w κ
  val : κ → Tok → Value
  key : Value → κ
  isv : ∀ k t, knd.is k (val k t) = true
  kv : ∀ k t, key (val k t) = k
  scn : ∀ k t, (val k t).scannable = true
section
variable {P : Program} {w : World} {κ : Type} [DecidableEq κ] (T : SK P w κ)
def SK.good (e : Int × Value) : Prop := ∃ k t, e.2 = T.val k t ∧ e.1 = T.knd.hash k
def SK.keys (es : Array (Int × Value)) : List κ := es.toList.map fun e => T.key e.2
/-- what the payload of a set says: S its members, n their number -/
structure SK.Pay (S : κ → Bool) (n : Nat) (es : Array (Int × Value)) (t : SetTable) : Prop where
  good : ∀ e ∈ es.toList, T.good e
  nd : (T.keys es).Nodup
  mem : ∀ k, S k = true ↔ k ∈ T.keys es
  bd : es.size < scanBound
  fit : t.fits es.size = true
  len : es.size = n
  ris : Ris t.place.toList
  led : w.params.followText "set-order" = true ∨ t.led = true
def SK.At (h : Heap) (a : Addr) (S : κ → Bool) (n : Nat) : Prop := ∃ o es ep t, h.get? a = some o ∧ o.ExactSet ∧ o.data = .set es ep t ∧ T.Pay S n es t
variable {T}
theorem SK.At.mv {h h' : Heap} {a : Addr} {S : κ → Bool} {n : Nat} (x : T.At h a S n) (k : ∀ o, h.get? a = some o → h'.get? a = some o) : T.At h' a S n := by
  obtain ⟨o, es, ep, t, e, r⟩ := x
  exact ⟨o, es, ep, t, k o e, r⟩
theorem SK.At.cg {h : Heap} {a : Addr} {S S' : κ → Bool} {n : Nat} (x : T.At h a S n) (e : ∀ k, S' k = S k) : T.At h a S' n := by
  rw [show S' = S from funext e]; exact x
theorem SK.asks {e : Int × Value} (g : T.good e) (k : κ) : T.knd.is k e.2 = true ↔ T.key e.2 = k := by
  obtain ⟨x, t, e1, _⟩ := g
  rw [e1, T.kv]
  exact ⟨fun h => T.knd.inj _ x k (T.isv x t) h, fun h => by rw [← h]; exact T.isv x t⟩
theorem SK.Pay.els {S : κ → Bool} {n : Nat} {es : Array (Int × Value)} {t : SetTable} (p : T.Pay S n es t) : ElemsOf T.knd es.toList := fun e he => by
  obtain ⟨k, u, e1, e2⟩ := p.good e he
  exact ⟨⟨k, by rw [e1]; exact T.isv k u, e2⟩, by rw [e1]; exact T.scn k u⟩
theorem SK.Pay.has {S : κ → Bool} {n : Nat} {es : Array (Int × Value)} {t : SetTable} (p : T.Pay S n es t) (k : κ) : S k = true ↔ ∃ e ∈ es.toList, T.knd.is k e.2 = true := by
  rw [p.mem k]
  unfold SK.keys
  rw [List.mem_map]
  exact ⟨fun ⟨e, he, q⟩ => ⟨e, he, (SK.asks (p.good e he) k).mpr q⟩, fun ⟨e, he, q⟩ => ⟨e, he, (SK.asks (p.good e he) k).mp q⟩⟩
/-- the payload with other tables, its entries in another order -/
theorem SK.Pay.perm {S : κ → Bool} {n : Nat} {es es' : Array (Int × Value)} {t t' : SetTable} (p : T.Pay S n es t) (q : es'.toList.Perm es.toList) (hf : t'.fits es'.size = true) (hr : Ris t'.place.toList) (hl : t'.led = t.led) : T.Pay S n es' t' := by
  have hs : es'.size = es.size := by rw [← Array.length_toList, q.length_eq, Array.length_toList]
  have hk : (T.keys es').Perm (T.keys es) := q.map _
  exact ⟨fun e he => p.good e (q.mem_iff.mp he), hk.nodup_iff.mpr p.nd, fun k => (p.mem k).trans hk.mem_iff.symm, by rw [hs]; exact p.bd, hf, hs.trans p.len, hr, p.led.imp id fun z => by rw [hl]; exact z⟩
theorem SK.Pay.plus {S : κ → Bool} {n : Nat} {es es' : Array (Int × Value)} {t t' : SetTable} {k : κ} {u : Tok} (p : T.Pay S n es t) (hS : S k = false) (q : es'.toList.Perm (es.toList ++ [(T.knd.hash k, T.val k u)])) (hb : n + 1 < scanBound) (hf : t'.fits es'.size = true) (hr : Ris t'.place.toList) (hl : t'.led = t.led) :
    T.Pay (fun j => S j || decide (j = k)) (n + 1) es' t' := by
  have q1 := q.trans (List.perm_append_singleton _ _)
  have hk : (T.keys es').Perm (k :: T.keys es) := by
    have := q1.map fun e => T.key e.2
    rw [List.map_cons, T.kv] at this
    exact this
  have hs : es'.size = n + 1 := by rw [← Array.length_toList, q1.length_eq, List.length_cons, Array.length_toList, p.len]
  refine ⟨fun e he => ?_, hk.nodup_iff.mpr (List.nodup_cons.mpr ⟨fun z => ?_, p.nd⟩), fun j => ?_, by rw [hs]; exact hb, hf, hs, hr, p.led.imp id fun z => by rw [hl]; exact z⟩
  · rcases List.mem_cons.mp (q1.mem_iff.mp he) with z | z
    · exact ⟨k, u, by rw [z], by rw [z]⟩
    · exact p.good e z
  · rw [(p.mem k).mpr z] at hS; cases hS
  · rw [hk.mem_iff, List.mem_cons, ← p.mem j, Bool.or_eq_true, decide_eq_true_eq]
    exact Or.comm
theorem SK.Pay.dup {S : κ → Bool} {n : Nat} {es : Array (Int × Value)} {t : SetTable} {k : κ} (p : T.Pay S n es t) (hS : S k = true) : T.Pay (fun j => S j || decide (j = k)) n es t :=
  ⟨p.good, p.nd, fun j => (show (S j || decide (j = k)) = true ↔ S j = true from ⟨fun z => by
      rw [Bool.or_eq_true, decide_eq_true_eq] at z
      exact z.elim id fun e => by rw [e]; exact hS, fun z => by rw [z]; rfl⟩).trans (p.mem j), p.bd, p.fit, p.len, p.ris, p.led⟩
end
section
variable {P : Program} {w : World} {κ : Type} [DecidableEq κ] {T : SK P w κ} {A : Around} {E : Value → Shared → Prop} {s : Shared} {a : Addr} {S : κ → Bool} {n : Nat}
theorem SK.tail {g : Bool → Sem Unit} (hg : ∀ (b : Bool) (s1 : Shared) (Q1 : Unit → Shared → Prop), Q1 () s1 → wpAny (model P w) A (g b) Q1 E s1) {o : Obj} {es : Array (Int × Value)} {ep : Nat} {t : SetTable} (ho : s.heap.get? a = some o) (hx : o.ExactSet) (hd : o.data = .set es ep t)
    {ys : Array (Int × Value)} {t2 : SetTable} (p : T.Pay S n ys t2) {wd : Bool} {R : Option Bool → Shared → Prop} (hR : ∀ h', Heap.SameBut a s.heap h' → T.At h' a S n → R (some true) { s with heap := h' }) :
    wpAny (model P w) A (do
      storeSet a ys t2
      if (!wd && t2.tooFull) = true then do
          g (relayAll t2 ys (SetTable.grown ys.size)).2.2; storeSet a (relayAll t2 ys (SetTable.grown ys.size)).1 (relayAll t2 ys (SetTable.grown ys.size)).2.1; pure (some true)
        else pure (some true)) R E s := by
  have p1 := store_at (es' := ys) (t' := t2) ho hd
  have b1 := Heap.SameBut.update s.heap a (Obj.putSet ys t2)
  refine wpAny_bind (wpAny_storeSet_of ho hd ?_ (fits_of_scanBound p.bd))
  split
  · have q := p.perm (relayAll_perm t2 ys (SetTable.grown ys.size)) (relayAll_fits t2 ys _) (relayAll_ris t2 ys _) (relayAll_led t2 ys _)
    generalize relayAll t2 ys (SetTable.grown ys.size) = Z at q ⊢
    refine wpAny_bind (hg _ _ _ (wpAny_bind (wpAny_storeSet_of p1 rfl ?_ (fits_of_scanBound q.bd))))
    exact wpAny_pure (hR _ (b1.trans (Heap.SameBut.update _ a _)) ⟨_, Z.1, _, Z.2.1, store_at (es' := Z.1) (t' := Z.2.1) p1 rfl, hx, rfl, q⟩)
  · exact wpAny_pure (hR _ b1 ⟨_, ys, _, t2, p1, hx, rfl, p⟩)
theorem SK.add {k : κ} {u : Tok} {Q : Bool → Shared → Prop} (x : T.At s.heap a S n) (room : n + 1 < scanBound)
    (hQ : ∀ h' m, Heap.SameBut a s.heap h' → T.At h' a (fun j => S j || decide (j = k)) m → m ≤ n + 1 → Q (!S k) { s with heap := h' }) : wpAny (model P w) A (setAddHashed a (T.val k u) (T.knd.hash k)) Q E s := by
  obtain ⟨o, es, ep, t, ho, hx, hd, p⟩ := x
  have hgw : ∀ (b : Bool) {s1 : Shared} {Q1 : Unit → Shared → Prop}, Q1 () s1 → wpAny (model P w) A (match b with | true => rule "set.scan.the-table-gave-way" | false => pure ()) Q1 E s1 := fun b _ _ q => match b with
    | true => wpAny_rule q
    | false => wpAny_pure q
  have hsc := T.scn k u
  unfold setAddHashed setAddHashedIn
  refine wpAny_holding (wpAny_bind (wpAny_setState_of ho hd p.fit ?_)); dsimp only
  rw [byScan_of hsc p.bd p.els]; simp only [↓reduceIte]
  unfold setAddByScan
  refine wpAny_bind (wpAny_bind (wpAny_rule (wpAny_bind (wpAny_setScan_of (T.isv k u) ho hd p.fit p.els ?_))))
  cases hfi : List.findIdx? (fun e => T.knd.is k e.2) es.toList with
  | some j =>
    obtain ⟨hj, pj, _⟩ := List.findIdx?_eq_some_iff_getElem.mp hfi
    have hS : S k = true := (p.has k).mpr ⟨_, List.getElem_mem hj, pj⟩
    have := hQ s.heap n (Heap.SameBut.refl a s.heap) ⟨o, es, ep, t, ho, hx, hd, p.dup hS⟩ (Nat.le_succ n)
    rw [hS] at this
    exact wpAny_pure (wpAny_pure this)
  | none =>
    dsimp only
    have hS : S k = false := by
      cases z : S k with
      | false => rfl
      | true =>
        obtain ⟨e, he, q⟩ := (p.has k).mp z
        have := List.findIdx?_eq_none_iff.mp hfi e he
        rw [q] at this; cases this
    have z1 := layNew_perm t es (T.knd.hash k) (T.val k u)
    have z2 := layNew_fits t es (T.knd.hash k) (T.val k u)
    have z3 := layNew_ris t es (T.knd.hash k) (T.val k u) p.ris
    have z4 := layNew_led t es (T.knd.hash k) (T.val k u)
    rw [Array.toList_push] at z1
    generalize layNew t es (T.knd.hash k) (T.val k u) = Z at z1 z2 z3 z4 ⊢
    obtain ⟨ys, t1, wd, gave⟩ := Z
    dsimp only at z1 z2 z3 z4 ⊢
    have py := p.plus hS z1 room z2 z3 z4
    have fin : ∀ h', Heap.SameBut a s.heap h' → T.At h' a (fun j => S j || decide (j = k)) (n + 1) → Q true { s with heap := h' } := fun h' b y => by
      have := hQ h' (n + 1) b y (Nat.le_refl _)
      rw [hS] at this
      exact this
    have hgp : ∀ (b : Bool) (s1 : Shared) (Q1 : Unit → Shared → Prop), Q1 () s1 → wpAny (model P w) A (match b with | true => rule "set.scan.the-table-gave-way" | false => pure ()) Q1 E s1 := fun b _ _ q => hgw b q
    refine wpAny_bind (hgw _ ?_)
    split
    · refine wpAny_bind ?_
      rw [hashByValue_scannable 8 hsc]
      refine wpAny_pure (SK.tail (T := T) ?_ ho hx hd (S := fun j => S j || decide (j = k)) (n := n + 1) ?_ fun h' b y => by dsimp only; exact wpAny_pure (fin h' b y))
      · intro b s1 Q1 q; cases b <;> first | exact wpAny_pure q | exact wpAny_rule q
      · first
          | exact { py with fit := SetTable.fits_plain_off z2 }
          | (split <;> first | exact py | exact { py with fit := SetTable.fits_plain_off z2 })
    · refine wpAny_bind (wpAny_pure ?_)
      simp only [↓reduceIte]
      refine SK.tail (T := T) ?_ ho hx hd (S := fun j => S j || decide (j = k)) (n := n + 1) py fun h' b y => by dsimp only; exact wpAny_pure (fin h' b y)
      intro b s1 Q1 q; cases b <;> first | exact wpAny_pure q | exact wpAny_rule q
end
section
variable {P : Program} {w : World} {κ : Type} [DecidableEq κ] {T : SK P w κ} {A : Around} {E : Value → Shared → Prop}
/-- all that an iterator gives goes into the set -/
theorem SK.loop {I a : Addr} {fp wr : List Addr} {G : Array GenState → Array GenState → Prop} {N : Nat} {Pv : Nat → Value → Prop} {St : Nat → Shared → Prop} {R : Result → Shared → Prop} (W : WalksS P w A.in1 I fp wr G N Pv St) (haf : a ∉ fp) (ks : List κ) (hN : N = ks.length) (hb : ks.length + 1 < scanBound)
    (hv : ∀ i v, Pv i v → ∃ k t, ks[i]? = some k ∧ v = T.val k t) : ∀ (m i : Nat) (s : Shared), N - i = m → i ≤ N → St i s → (∃ c, c ≤ i ∧ T.At s.heap a (fun j => decide (j ∈ ks.take i)) c) →
    (∀ s2 c, Moved (a :: wr) G s s2 → c ≤ N → T.At s2.heap a (fun j => decide (j ∈ ks)) c → R (.ok (.ret .none)) s2) → codeAny (model P w) A (.builtin "set.update.loop" ⟨[.ref a, .ref I], []⟩) R s := by
  have haw : a ∉ wr := fun z => haf (W.sub _ z)
  have hup : ∀ b ∈ wr, b ∈ a :: wr := fun b z => List.mem_cons_of_mem _ z
  intro m
  induction m with
  | zero =>
    rintro i s hm hi hst ⟨c, hc, hS⟩ hR
    obtain rfl : i = N := by omega
    refine codeAny_builtin F.entry_set_update_loop ?_; rw [Around.under_plainId F.plain_set_update_loop _]
    refine (show wpAny _ A.in1 (pyNext (.ref I) >>= _) _ _ s from wpAny_bind (W.done s _ _ hst fun s2 mv => ?_))
    rw [List.take_of_length_le (by omega)] at hS
    exact (show wpAny _ A.in1 (ret Value.none) _ _ s2 from wpAny_pure (hR s2 c (mv.mono hup) hc (hS.mv fun o e => mv.heap a o haw e)))
  | succ m ih =>
    rintro i s hm hi hst ⟨c, hc, hS⟩ hR
    have hlt : i < N := by omega
    refine codeAny_builtin F.entry_set_update_loop ?_; rw [Around.under_plainId F.plain_set_update_loop _]
    refine (show wpAny _ A.in1 (pyNext (.ref I) >>= _) _ _ s from wpAny_bind (W.item i s _ _ hlt hst fun v s2 hP hst2 mv => ?_))
    obtain ⟨k, t, hk, rfl⟩ := hv i v hP
    have hS2 : T.At s2.heap a (fun j => decide (j ∈ ks.take i)) c := hS.mv fun o e => mv.heap a o haw e
    refine (show wpAny _ A.in1 (holding [T.val k t] (setAdd a (T.val k t)) >>= _) _ _ s2 from wpAny_bind (wpAny_holding ?_))
    unfold setAdd
    refine wpAny_holding (wpAny_bind (T.knd.pyHash (k := k) (T.isv k t) (SK.add (s := { s2 with toks := s2.toks + 1 }) hS2 (by omega) fun h' c2 sb hS3 hc2 => ?_)))
    have hS4 : T.At h' a (fun j => decide (j ∈ ks.take (i + 1))) c2 := hS3.cg fun j => by
      rw [List.take_add_one, hk]
      simp [List.mem_append]
    refine wpAny_pure ⟨plainId_quiet F.plain_set_update_loop _, ih (i + 1) _ (by omega) hlt (W.frame _ s2 _ _ hst2 (Nat.le_succ _) fun b z o e => ?_) ⟨c2, by omega, hS4⟩ fun s3 c3 mv3 hc3 hS5 => ?_⟩
    · rw [sb.2 b fun q : b = a => haf (q ▸ z)]; exact e
    · refine hR s3 c3 (Moved.trans W.gtrans ((mv.mono hup).then_heap (Nat.le_succ _) fun b o z e => ?_) mv3) hc3 hS5
      rw [sb.2 b fun q : b = a => z (q ▸ List.mem_cons_self)]; exact e
theorem SK.fresh {h : Heap} {a : Addr} {S : κ → Bool} (e : ∀ k, S k = false) (ho : h.get? a = some { cls := .type "set", dict := none, data := .set #[] 0 (.fresh 0 0 (!w.params.followText "set-order")) }) : T.At h a S 0 :=
  ⟨_, #[], 0, _, ho, ⟨rfl, rfl, rfl⟩, rfl, ⟨(fun e he => by simp at he), List.Pairwise.nil, (fun k => by rw [e k]; exact ⟨(fun z => by cases z), fun z => nomatch z⟩), by decide, by rfl, rfl, List.Pairwise.nil, by
    cases z : w.params.followText "set-order" with
    | false => exact .inr rfl
    | true => exact .inl rfl⟩⟩
end
section
variable {P : Program} {w : World} {A : Around} {E : Value → Shared → Prop} {s : Shared}
def txK (P : Program) (w : World) : SK P w Str := ⟨strKind P w, fun k t => .str k t, fun v => match v with | .str k _ => k | _ => Str.empty, fun k t => by show Value.isStrOf k (.str k t) = true; simp [Value.isStrOf], fun _ _ => rfl, fun _ _ => rfl⟩
def inK (P : Program) (w : World) : SK P w Int := ⟨intKind P w, fun k t => .int k t, fun v => match v with | .int k _ => k | _ => 0, fun k t => intKind_is P w k t, fun _ _ => rfl, fun _ _ => rfl⟩
/-- what a set is filled with -/
def Fill (P : Program) (w : World) {κ : Type} [DecidableEq κ] (T : SK P w κ) (x : Value) (ks : List κ) (h0 : Heap) : Prop := ∀ {A : Around} {E : Value → Shared → Prop} {s : Shared} {a : Addr} {Q : Unit → Shared → Prop}, A.handled = none → (∀ b o, h0.get? b = some o → s.heap.get? b = some o) → h0.get? a = none → T.At s.heap a (fun _ => false) 0 →
  (∀ h' tk c, T.At h' a (fun j => decide (j ∈ ks)) c → c ≤ ks.length → (∀ b o, b ≠ a → s.heap.get? b = some o → h'.get? b = some o) → Q () { s with heap := h', toks := tk }) → wpAny (model P w) A (Builtin.Frozenset.updateFrom "set.__init__" a x) Q E s
theorem fill_end {κ : Type} [DecidableEq κ] {T : SK P w κ} {ks : List κ} {A : Around} {E : Value → Shared → Prop} {s s2 : Shared} {a I : Addr} {Q : Unit → Shared → Prop} {h1 : Heap} {c : Nat} {S0 : κ → Bool} (_ : T.At h1 a S0 0) (k1 : ∀ b o, s.heap.get? b = some o → h1.get? b = some o) (k2 : ∀ b o, b ∉ [a, I] → h1.get? b = some o → s2.heap.get? b = some o) (e1 : s2.gens = s.gens) (e2 : s2.drawn = s.drawn) (e3 : s2.os = s.os)
    (h2 : T.At s2.heap a (fun j => decide (j ∈ ks)) c) (hc : c ≤ ks.length) (hI : ∀ b o, s.heap.get? b = some o → b ≠ I) (hq : ∀ h' tk c, T.At h' a (fun j => decide (j ∈ ks)) c → c ≤ ks.length → (∀ b o, b ≠ a → s.heap.get? b = some o → h'.get? b = some o) → Q () { s with heap := h', toks := tk }) :
    wpAny (model P w) A (pure ()) Q E s2 := by
  obtain ⟨h', g2, d2, tk2, os2⟩ := s2
  subst e1; subst e2; subst e3
  exact wpAny_pure (hq h' tk2 c h2 hc fun b o z e => k2 b o (by simp only [List.mem_cons, List.not_mem_nil, or_false, not_or]; exact ⟨z, hI b o e⟩) (k1 b o e))
theorem fill_text {y : Str} {t : Tok} {h0 : Heap} (hl : y.length + 1 < scanBound) : Fill P w (txK P w) (.str y t) ((TL.tl y).map sg) h0 := by
  intro A E s a Q hh _ _ hS hq
  have hlen : y.cps.size = ((TL.tl y).map sg).length := by rw [List.length_map]; exact TL.len_tl y
  have hlt : a < s.heap.objs.size := by
    obtain ⟨o, _, _, _, e, _⟩ := hS
    exact Heap.lt_size e
  unfold Builtin.Frozenset.updateFrom
  refine wpAny_bind (Fz.anySet ?_)
  rw [if_neg Bool.false_ne_true]
  refine wpAny_bind (wpAny_typeOf (typeIs_str _ _ _) ?_)
  rw [if_neg (by decide)]
  refine wpAny_bind (wpAny_pyIter_str fun o St hW hst => wpAny_bind (wpAny_runValue ?_))
  have hne : a ≠ s.heap.objs.size := Nat.ne_of_lt hlt
  have hS1 : (txK P w).At (s.heap.push o) a (fun j => decide (j ∈ ((TL.tl y).map sg).take 0)) 0 := (hS.mv fun o' e => Heap.get?_push_of_some _ e).cg fun k => by simp
  refine SK.loop (T := txK P w) (hW A.in1 (by simp [hh])).toS (by simpa using hne) ((TL.tl y).map sg) hlen (by rw [← hlen]; exact hl) (fun i v hv => ?_) _ 0 { s with heap := s.heap.push o } rfl (Nat.zero_le _) hst ⟨0, Nat.le_refl 0, hS1⟩ fun s2 c mv hc h2 => ?_
  · obtain ⟨c, u, h1, rfl⟩ := hv
    refine ⟨sg c, u, ?_, rfl⟩
    rw [List.getElem?_map, show (TL.tl y)[i]? = some c from by rw [← h1]; exact Array.getElem?_toList]
    rfl
  · exact fill_end hS1 (fun b o' e => Heap.get?_push_of_some _ e) (fun b o' e => mv.heap b o' e) mv.gens mv.drawn mv.os h2 (by rw [← hlen]; exact hc) (fun b o' e => Nat.ne_of_lt (Heap.lt_size e)) hq
theorem anySetL {l : Addr} {Q : Bool → Shared → Prop} (hT : s.TypeIs (.ref l) "list") (h : Q false s) : wpAny (model P w) A (Builtin.Frozenset.isAnySet (.ref l)) Q E s := by
  unfold Builtin.Frozenset.isAnySet orM
  refine wpAny_bind (wpAny_isInstance hT PySem.F.sub_list_set ?_)
  exact (show wpAny _ _ (isInstance (.ref l) (.type "frozenset")) _ _ s from wpAny_isInstance hT PySem.F.sub_list_frozenset h)
theorem fill_list {κ : Type} [DecidableEq κ] {T : SK P w κ} {l : Addr} {items : Array Value} {ks : List κ} {h0 : Heap} (hl : h0.IsList l items) (hn : items.size = ks.length) (hv : ∀ (i : Nat) (v : Value), items[i]? = some v → ∃ (k : κ) (t : Tok), ks[i]? = some k ∧ v = T.val k t) (hb : ks.length + 1 < scanBound) : Fill P w T (.ref l) ks h0 := by
  intro A E s a Q hh hk ha hS hq
  have hl1 : s.heap.IsList l items := by
    obtain ⟨o, e, r⟩ := hl
    exact ⟨o, hk l o e, r⟩
  have hlt : a < s.heap.objs.size := by
    obtain ⟨o, _, _, _, e, _⟩ := hS
    exact Heap.lt_size e
  have hla : l ≠ a := fun z => by
    obtain ⟨o, e, _⟩ := hl
    rw [z, ha] at e; cases e
  have hll : l < s.heap.objs.size := by
    obtain ⟨o, e, _⟩ := hl1
    exact Heap.lt_size e
  have hT : s.TypeIs (.ref l) "list" := by
    obtain ⟨o, e, c, _⟩ := hl1
    exact ⟨o, e, c⟩
  unfold Builtin.Frozenset.updateFrom
  refine wpAny_bind (anySetL hT ?_)
  rw [if_neg Bool.false_ne_true]
  refine wpAny_bind (wpAny_typeOf hT ?_)
  rw [if_neg (by decide)]
  refine wpAny_bind (wpAny_pyIter_list hl1 (wpAny_bind (wpAny_runValue ?_)))
  have hne : a ≠ s.heap.objs.size := Nat.ne_of_lt hlt
  have hS1 : T.At (s.heap.push { cls := .type "list_iterator", data := .fields #[.ref l, .int 0 0] }) a (fun j => decide (j ∈ ks.take 0)) 0 := (hS.mv fun o' e => Heap.get?_push_of_some _ e).cg fun k => by simp
  refine SK.loop (T := T) (Walks.list (A := A.in1) (by simp [hh]) s.heap.objs.size l (Nat.ne_of_lt hll) items).toS (by simp only [List.mem_cons, List.not_mem_nil, or_false, not_or]; exact ⟨hne, fun z => hla z.symm⟩) ks hn hb hv _ 0 { s with heap := s.heap.push { cls := .type "list_iterator", data := .fields #[.ref l, .int 0 0] } } rfl (Nat.zero_le _) ⟨⟨_, Heap.get?_push_size _ rfl, rfl, rfl⟩, hl1.push _⟩ ⟨0, Nat.le_refl 0, hS1⟩ fun s2 c mv hc h2 => ?_
  exact fill_end hS1 (fun b o' e => Heap.get?_push_of_some _ e) (fun b o' e => mv.heap b o' e) mv.gens mv.drawn mv.os h2 (by rw [← hn]; exact hc) (fun b o' e => Nat.ne_of_lt (Heap.lt_size e)) hq
def emptySet (w : World) : Obj := { cls := .type "set", dict := none, data := .set #[] 0 (.fresh 0 0 (!w.params.followText "set-order")) }
theorem set_of {κ : Type} [DecidableEq κ] {T : SK P w κ} {x : Value} {ks : List κ} {Q : Value → Shared → Prop} (F0 : Fill P w T x ks s.heap) (hh : A.handled = none)
    (h : ∀ h' tk c, T.At h' s.heap.objs.size (fun j => decide (j ∈ ks)) c → c ≤ ks.length → (∀ b o, s.heap.get? b = some o → h'.get? b = some o) → Q (.ref s.heap.objs.size) { s with heap := h', toks := tk }) :
    wpAny (model P w) A (call (.type "set") [x]) Q E s := by
  obtain ⟨c0, tl, hmro⟩ := F.called_set.mro
  have q1 := F.called_set.made
  have q2 := F.called_set.sub
  refine wpAny_call (codeAny_of_tree (show wpAny _ _ (callAny (.type "set") _) _ _ _ from wpAny_pure ⟨Code.quiet_builtin _ (by decide +kernel), codeAny_builtin F.entry_type_call ?_⟩))
  rw [Around.under_plain (weight_type_call_type "set" [x] []) rfl]
  have q3 := F.called_set.notType
  have q4 := F.called_set.canCreate
  have q5 := F.typeCall_set_1 x
  repeat (any_goals (first | assumption | wp_step))
  refine codeAny_mono (code_set_led1 x (E := E) (Q₁ := fun obj s₁ => obj = .ref s.heap.objs.size ∧ s₁ = { s with heap := s.heap.push (emptySet w) }) ⟨rfl, rfl⟩) fun r s₁ hr => ?_
  cases r with
  | error e => exact hr
  | ok fl =>
    cases fl with
    | ret obj =>
      obtain ⟨rfl, rfl⟩ := hr
      have g0 : (s.heap.push (emptySet w)).get? s.heap.objs.size = some (emptySet w) := Heap.get?_push_size _ rfl
      have hT : Shared.TypeIs { s with heap := s.heap.push (emptySet w) } (.ref s.heap.objs.size) "set" := ⟨_, g0, rfl⟩
      have hli := F.called_set.init.lookup
      have hbi := F.called_set.init.bind (.ref s.heap.objs.size)
      repeat (any_goals (first | assumption | wp_step))
      refine codeAny_mono (codeAny_call_builtin (R := wants (fun r s₂ => r = .none ∧ ∃ h' tk c, s₂ = { s with heap := h', toks := tk } ∧ T.At h' s.heap.objs.size (fun j => decide (j ∈ ks)) c ∧ c ≤ ks.length ∧ ∀ b o, s.heap.get? b = some o → h'.get? b = some o) E) F.called_set.init.plain F.entry_set_init (check_set_init_1 hT ?_)) fun r₂ s₂ hr₂ => ?_
      · unfold Builtin.«set.__init__» noKeywords
        generalize hU : Builtin.Frozenset.updateFrom = U
        wp_walk
        subst hU
        refine F0 (by simp [hh]) (fun b o e => Heap.get?_push_of_some _ e) ?_ (SK.fresh (fun _ => rfl) g0) fun h' tk c z1 z2 z3 => ?_
        · cases z : s.heap.get? s.heap.objs.size with
          | none => rfl
          | some o => exact absurd (Heap.lt_size z) (Nat.lt_irrefl _)
        · exact (show wpAny _ _ (ret Value.none) _ _ _ from wpAny_pure ⟨rfl, h', tk, c, rfl, z1, z2, fun b o e => z3 b o (Nat.ne_of_lt (Heap.lt_size e)) (Heap.get?_push_of_some _ e)⟩)
      · cases r₂ with
        | error e => exact hr₂
        | ok fl₂ =>
          cases fl₂ with
          | ret r =>
            obtain ⟨rfl, h', tk, c', rfl, z1, z2, z3⟩ := hr₂
            repeat (any_goals (first | assumption | wp_step))
            exact h _ _ _ z1 z2 z3
          | _ => exact hr₂.elim
    | _ => exact hr.elim
end
end Vf
set_option Elab.async false
set_option linter.all false
set_option maxRecDepth 100000
set_option maxHeartbeats 4000000
/-! sets of texts: as values, counted, sorted; sets of numbers out of lists -/
namespace Vf
open PySem PySem.Spec L2 PyProof.Rows
section
variable {P : Program} {w : World} {A : Around} {E : Value → Shared → Prop} {s : Shared} {a : Addr}
theorem SK.At.num {κ : Type} [DecidableEq κ] {T : SK P w κ} {h : Heap} {S : κ → Bool} {n : Nat} (x : T.At h a S n) : ∀ l : List κ, l.Nodup → (∀ k, k ∈ l ↔ S k = true) → l.length = n := fun l hl hm => by
  obtain ⟨o, es, ep, t, _, _, _, p⟩ := x
  have h1 := (List.perm_ext_iff_of_nodup hl p.nd).mpr fun k => (hm k).trans (p.mem k)
  rw [h1.length_eq, ← p.len]
  unfold SK.keys
  rw [List.length_map, Array.length_toList]
theorem sorted_tx {S : Str → Bool} {n : Nat} {Q : Value → Shared → Prop} (x : (txK P w).At s.heap a S n) (hh : A.handled = none) (h64 : n < 64)
    (hQ : ∀ s2 p (out : Array Value) (c : Nat) (ys : List Str), (∀ b o, s.heap.get? b = some o → s2.heap.get? b = some o) → s2.gens = s.gens → s2.os = s.os → s.heap.objs.size ≤ p → s2.heap.get? p = some (seqObj "list" out c) → StrsAre out.toList ys → sortedS ys = true → ys.Nodup → (∀ k, k ∈ ys ↔ S k = true) → ys.length = n → Q (.ref p) s2) :
    wpAny (model P w) A (call (.builtin "sorted") [.ref a]) Q E s := by
  obtain ⟨o, es, ep, t, ho, hx, hd, p⟩ := x
  refine Calls.call_function_entry kind_sorted plain_sorted entry_sorted (args_sorted1 _) (?_ : wpAny _ _ (Builtin.«sorted» _) _ _ _)
  unfold Builtin.«sorted»
  refine wpAny_bind (m := checkCount "sorted" 1 1 _) (wpAny_pure (wpAny_bind (collect_set (A := A.in1) hh ⟨o, ho, hx.1, hd⟩ p.fit p.bd p.ris p.led fun s1 vs k1 hz g1 o1 pm => ?_)))
  have hl : vs.length = n := by rw [pm.length_eq, List.length_map, Array.length_toList]; exact p.len
  have hstr : ∀ v ∈ vs, ∃ y u, v = Value.str y u := fun v hv => by
    obtain ⟨e, he, q⟩ := List.mem_map.mp (pm.mem_iff.mp hv)
    obtain ⟨k, u, e1, _⟩ := p.good e he
    exact ⟨k, u, q.symm.trans e1⟩
  have hS : StrsAre vs (vs.map strOf) := strsAre_map vs hstr
  have pk : (vs.map strOf).Perm ((txK P w).keys es) := by
    have q := pm.map strOf
    rw [List.map_map] at q
    refine q.trans (List.Perm.of_eq (List.map_congr_left fun e he => ?_))
    obtain ⟨k, u, e1, _⟩ := p.good e he
    show strOf e.2 = (txK P w).key e.2
    rw [e1]
    rfl
  refine wpAny_bind (wpAny_newList ?_ (by rw [hl, sizeLine_eq]; omega))
  have hoL : (s1.heap.push (seqObj "list" vs.toArray 0)).get? s1.heap.objs.size = some (seqObj "list" vs.toArray 0) := Heap.get?_push_size _ rfl
  refine wpAny_bind (wpAny_holding (wpAny_call_entry slot_list_sort ⟨_, hoL, rfl⟩ entry_list_sort (list_sort_treeK strKind_oneLt hoL hS.keysOf (fun v₁ v₂ rest e => keyKind_strs (by rw [← e]; exact hS)) (by rw [hl]; exact h64) fun st2 hp hs => ⟨_, rfl, ?_⟩) (args_list_sort _)))
  obtain ⟨ys, b1, b2, b3⟩ := sorted_out_str hS hp hs
  obtain ⟨c, hc⟩ := sortedHeap_at (vs := vs) (out := (arrOf st2).map (·.2)) hoL
  have pn := b2.trans pk
  refine wpAny_pure ⟨_, rfl, hQ _ s1.heap.objs.size _ c ys (fun b u e => ?_) g1 o1 hz hc b1 b3 (pn.nodup_iff.mpr p.nd) (fun k => by rw [pn.mem_iff, ← p.mem k]) (by rw [pn.length_eq, ← p.len]; unfold SK.keys; rw [List.length_map, Array.length_toList])⟩
  have q := k1 b u e
  have hlt := Heap.lt_size q
  refine (show (sortedHeap (s1.heap.push (seqObj "list" vs.toArray 0)) s1.heap.objs.size vs _).get? b = some u from ?_)
  rw [sortedHeap_old (Nat.ne_of_lt hlt) (by rw [size_push']; exact Nat.lt_succ_of_lt hlt)]
  exact Heap.get?_push_of_some _ q
end
/-- the set of texts at a -/
def TxO (P : Program) (w : World) (a : Addr) (S : Str → Bool) (n : Nat) : HO := .ext fun h => (txK P w).At h a S n
section
variable {X : Cx}
theorem txO_new {P : Program} {w : World} {H : Hp} {h : Heap} {a : Addr} {S : Str → Bool} {n : Nat} (x : (txK P w).At h a S n) : ObjOk P w H h a (TxO P w a S n) := by
  have ⟨o, _, _, _, e, _⟩ := x
  exact ⟨x, ⟨o, e⟩, fun _ _ p k => SK.At.mv p (k)⟩
theorem txO_get {pins : List (Addr × Obj)} {σ : L2.St} {H : Hp} {s : Shared} {a : Addr} {S : Str → Bool} {n : Nat} (I : Inv X pins σ H s) (e : H a = some (TxO X.prog X.w a S n)) : (txK X.prog X.w).At s.heap a S n := (I.hok a _ e).1
/-- set(text), set(list of texts) -/
def rSetT (X : Cx) : List V → Hp → VK → Prop := fun xs H Q => ∃ ks : List Str, ((∃ z : Str, xs = [.str z] ∧ ks = (TL.tl z).map sg) ∨ (∃ l, xs = [.ref l] ∧ SqL X.K H l (ks.map V.str))) ∧ ks.length ≤ 1000 ∧
  ∀ p n, H p = none → (∀ l : List Str, l.Nodup → (∀ k, k ∈ l ↔ k ∈ ks) → l.length = n) → n ≤ ks.length → Q (.ref p) (L2.upd H p (TxO X.prog X.w p (fun j => decide (j ∈ ks)) n))
theorem call_setT (hc : X.calm = true) : CallR X (.type "set") (rSetT X) := by
  intro pins s σ H xs us Q I r h
  obtain ⟨ks, hx, hl, q⟩ := h
  have hb : ks.length + 1 < scanBound := by unfold scanBound; omega
  have fin : ∀ u : Value, us = [u] → Fill X.prog X.w (txK X.prog X.w) u ks s.heap → wpAny (model X.prog X.w) X.A (call (.type "set") us) (EP X pins σ Q) X.xe s := by
    rintro u rfl FF
    refine set_of FF (I.ok.hd hc) fun h' tk c z1 z2 z3 => ?_
    have hp := I.hok.fresh (Nat.le_refl s.heap.objs.size)
    exact ⟨.ref _, L2.upd H s.heap.objs.size (TxO X.prog X.w s.heap.objs.size (fun j => decide (j ∈ ks)) c), I.laid (t' := tk) z3 (Nat.le_refl _) (txO_new z1), rfl, q _ c hp (fun l h1 h2 => z1.num l h1 fun k => by rw [h2 k, decide_eq_true_eq]) z2⟩
  rcases hx with ⟨z, rfl, rfl⟩ | ⟨l, rfl, hs⟩
  · obtain ⟨u, rfl, t, rfl⟩ := vals1 r
    rw [List.length_map, ← TL.len_tl] at hb
    exact fin _ rfl (fill_text hb)
  · obtain ⟨its, rv, pl, _⟩ := I.list hs
    have hlen : its.toArray.size = ks.length := by rw [List.size_toArray, ← rv.length, List.length_map]
    refine fin _ (Vals.ref1 r) (fill_list (T := txK X.prog X.w) pl.isList hlen (fun i v hv => ?_) hb)
    have hv : its[i]? = some v := by rw [← hv]; simp
    have hi : i < ks.length := by rw [← hlen]; exact (Array.getElem?_eq_some_iff.mp (by rw [← hv]; simp : its.toArray[i]? = some v)).1
    obtain ⟨t, e⟩ := SS.strs_at (strsAre_of rv) i v hv
    refine ⟨ks[i], t, List.getElem?_eq_getElem hi, ?_⟩
    rw [e, List.getD_eq_getElem?_getD, List.getElem?_eq_getElem hi]
    rfl
/-- sorted(set of texts) -/
def rSortT (X : Cx) : List V → Hp → VK → Prop := fun xs H Q => ∃ (a : Addr) (S : Str → Bool) (n : Nat), xs = [.ref a] ∧ H a = some (TxO X.prog X.w a S n) ∧ n < 64 ∧
  ∀ (ys : List Str) (p : Addr), sortedS ys = true → ys.Nodup → (∀ k, k ∈ ys ↔ S k = true) → H p = none → Q (.ref p) (L2.upd H p (.lst (ys.map V.str)))
theorem call_sortT (hc : X.calm = true) : CallR X (.builtin "sorted") (rSortT X) := by
  intro pins s σ H xs us Q I r h
  obtain ⟨a, S, n, rfl, ha, h64, q⟩ := h
  rw [Vals.ref1 r]
  refine sorted_tx (txO_get I ha) (I.ok.hd hc) h64 fun s2 p out c ys k g o hp hg b1 b2 b3 b4 b5 => ?_
  have hlen : (ys.map V.str).length ≤ sizeLine := by rw [List.length_map, b5, sizeLine_eq]; omega
  have hn : H p = none := I.hok.fresh hp
  have J : Inv X pins σ (L2.upd H p (.lst (ys.map V.str))) { s with heap := s2.heap, gens := s2.gens, drawn := s2.drawn, toks := s2.toks } := I.call (ch := []) (Un.laid k hp hn) (I.hok.laid k hp ⟨hlen, out.toList, c, vals_of_strs b1, hg⟩) (by rw [g]; exact I.bare) (fun _ z => nomatch z)
  have e : s2 = { s with heap := s2.heap, gens := s2.gens, drawn := s2.drawn, toks := s2.toks } := by
    cases s2; cases s; cases o; rfl
  rw [e]
  exact ⟨.ref p, _, J, rfl, q ys p b2 b3 b4 hn⟩
/-- len(set of texts) -/
def rLenT (X : Cx) : List V → Hp → VK → Prop := fun xs H Q => ∃ (a : Addr) (S : Str → Bool) (n : Nat), xs = [.ref a] ∧ H a = some (TxO X.prog X.w a S n) ∧ Q (.int n) H
theorem call_lenT : CallR X (.builtin "len") (rLenT X) := by
  intro pins s σ H xs us Q I r h
  obtain ⟨a, S, n, rfl, ha, q⟩ := h
  rw [Vals.ref1 r]
  obtain ⟨o, es, ep, t, ho, hx, hd, p⟩ := txO_get I ha
  refine call_len_set ho hx hd p.fit (by have := p.bd; unfold scanBound at this; omega) ⟨.int n, H, I.tok _, ⟨_, by rw [p.len]⟩, q⟩
/-- set(list of numbers): the library's own set of numbers -/
def rSetI (X : Cx) : List V → Hp → VK → Prop := fun xs H Q => ∃ (l : Addr) (ns : List Int), xs = [.ref l] ∧ SqL X.K H l (ns.map V.int) ∧ ns.length ≤ 1000 ∧
  ∀ p n, H p = none → n ≤ ns.length → Q (.ref p) (L2.upd H p (SetO X.w p (fun j => decide (j ∈ ns)) n))
theorem inK_setR {P : Program} {w : World} {h : Heap} {a : Addr} {S : Int → Bool} {n : Nat} (x : (inK P w).At h a S n) : SetR w h a S n := by
  obtain ⟨o, es, ep, t, ho, hx, hd, p⟩ := x
  have hk : (inK P w).keys es = es.toList.map keyOf := List.map_congr_left fun e he => by
    obtain ⟨k, u, e1, _⟩ := p.good e he
    unfold keyOf
    rw [e1]
    rfl
  exact ⟨o, es, ep, t, ho, hx, hd, fun e he => by obtain ⟨k, u, e1, e2⟩ := p.good e he; exact ⟨k, u, e1, e2⟩, by rw [← hk]; exact p.nd, fun k => by rw [← hk]; exact p.mem k, p.bd, p.fit, p.len, p.ris, p.led⟩
theorem call_setI (hc : X.calm = true) : CallR X (.type "set") (rSetI X) := by
  intro pins s σ H xs us Q I r h
  obtain ⟨l, ns, rfl, hs, hl, q⟩ := h
  obtain ⟨its, rv, pl, _⟩ := I.list hs
  rw [Vals.ref1 r]
  have hlen : its.toArray.size = ns.length := by rw [List.size_toArray, ← rv.length, List.length_map]
  refine set_of (fill_list (T := inK X.prog X.w) pl.isList hlen (fun i v hv => ?_) (by unfold scanBound; omega)) (I.ok.hd hc) fun h' tk c z1 z2 z3 => ?_
  · have hv : its[i]? = some v := by rw [← hv]; simp
    have hi : i < ns.length := by rw [← hlen]; exact (Array.getElem?_eq_some_iff.mp (by rw [← hv]; simp : its.toArray[i]? = some v)).1
    obtain ⟨t, e⟩ := PyProof.Rows.IntsAre.int_at (ints_of_vals rv) i v hv
    refine ⟨ns[i], t, List.getElem?_eq_getElem hi, ?_⟩
    rw [e, List.getD_eq_getElem?_getD, List.getElem?_eq_getElem hi]
    rfl
  · exact ⟨.ref _, L2.upd H s.heap.objs.size (SetO X.w s.heap.objs.size (fun j => decide (j ∈ ns)) c), I.laid (t' := tk) z3 (Nat.le_refl _) (setO_new (inK_setR z1)), rfl, q _ c (I.hok.fresh (Nat.le_refl _)) z2⟩
/-- list(text): its signs -/
theorem vals_signs : ∀ (l : List Nat) (us : List Value), us.length = l.length → (∀ (j : Nat) (c : Nat), l[j]? = some c → ∃ u, us[j]? = some (Value.str (sg c) u)) → Vals ((l.map sg).map V.str) us
  | [], [], _, _ => .nil
  | [], _ :: _, h, _ => nomatch h
  | _ :: _, [], h, _ => nomatch h
  | c :: l, v :: us, h, hv => by
    obtain ⟨u, e⟩ := hv 0 c rfl
    exact .cons ⟨u, Option.some.inj e⟩ (vals_signs l us (by simpa using h) fun j d hj => hv (j + 1) d hj)
theorem call_listT (hc : X.calm = true) : CallR X (.type "list") (fun xs H Q => ∃ z : Str, xs = [.str z] ∧ z.length ≤ 1000 ∧ ∀ p, H p = none → Q (.ref p) (L2.upd H p (.lst (((TL.tl z).map sg).map V.str)))) := by
  intro pins s σ H xs us Q I r h
  obtain ⟨z, rfl, hz, q⟩ := h
  obtain ⟨u, rfl, t, rfl⟩ := vals1 r
  have hzs : z.cps.size ≤ sizeLine := by rw [sizeLine_eq]; have : z.cps.size = z.length := rfl; omega
  refine call_list_str (I.ok.hd hc) z t (fun h' tk acc c k e hi => ?_) hzs
  have hlen : acc.toList.length = (TL.tl z).length := by rw [Array.length_toList, hi.1]; exact TL.len_tl z
  have hv : Vals (((TL.tl z).map sg).map V.str) acc.toList := vals_signs _ _ hlen fun j d hj => by
    have hj2 : j < acc.size := by rw [← Array.length_toList, hlen]; exact (List.getElem?_eq_some_iff.mp hj).1
    obtain ⟨d', u, h1, h2⟩ := hi.2 j _ (Array.getElem?_eq_getElem hj2)
    have : (TL.tl z)[j]? = some d' := by rw [← h1]; exact Array.getElem?_toList
    rw [hj] at this
    obtain rfl := Option.some.inj this
    exact ⟨u, by rw [Array.getElem?_toList, Array.getElem?_eq_getElem hj2, h2]; rfl⟩
  have hl2 : (((TL.tl z).map sg).map V.str).length ≤ sizeLine := by rw [List.length_map, List.length_map, ← TL.len_tl]; exact hzs
  exact ⟨.ref _, L2.upd H s.heap.objs.size (.lst (((TL.tl z).map sg).map V.str)), I.laid (t' := tk) k (Nat.le_refl _) ⟨hl2, acc.toList, c, hv, e⟩, rfl, q _ (I.hok.fresh (Nat.le_refl _))⟩
end
end Vf
set_option Elab.async false
set_option linter.all false
set_option maxRecDepth 100000
set_option maxHeartbeats 4000000
/-! rows of numbers as data; what sorted(set(..)) makes of numbers -/
namespace Vf
open PySem L2 PyProof.Rows
def rowsIT (gs : List (List Int)) : PyData := .tuple (gs.map intsT)
def rowsID (gs : List (List Int)) : PyData := .list (gs.map intsD)
theorem eqv_rowsIT (x y : List (List Int)) : PyData.eqv (rowsIT x) (rowsIT y) = decide (x = y) := by
  show PyData.eqv (.tuple (x.map intsT)) (.tuple (y.map intsT)) = _
  rw [PyData.eqv]; exact eqvAll_inj eqv_intsT x y
theorem lay_rowsIT (x : List (List Int)) : PyData.canLay0 (rowsIT x) = true := by rw [rowsIT, PyData.canLay0]; exact lay_all lay_intsT x
theorem dep_rowsIT (x : List (List Int)) : PyData.depth (rowsIT x) ≤ 2 := by rw [rowsIT, PyData.depth]; have := depth_all dep_intsT x; omega
theorem shaped_rowsIT (x : List (List Int)) : SeqAt.shaped (rowsIT x) = true := shaped_of (lay_rowsIT x) (dep_rowsIT x) (by decide)
/-- rows of goals, as lists or as tuples -/
def RwsI (K : PySem.W.Frag) (H : Hp) (R : V) (gs : List (List Int)) : Prop := Dp K H R (rowsID gs) ∨ Dp K H R (rowsIT gs)
theorem RwsI.mv {K : PySem.W.Frag} {H H' : Hp} {R : V} {gs : List (List Int)} (h : RwsI K H R gs) (k : Kl H H') : RwsI K H' R gs := h.imp (fun h => h.mv k) (fun h => h.mv k)
theorem RwsI.at {K : PySem.W.Frag} {H : Hp} {R : V} {gs : List (List Int)} (h : RwsI K H R gs) : ∃ r xs, R = .ref r ∧ Sq K H r xs ∧ xs.length = gs.length ∧
    ∀ (i : Nat) (hi : i < gs.length) (x : V), xs[i]? = some x → ∃ w, x = .ref w ∧ Sq K H w (gs[i].map V.int) := by
  rcases h with h | h
  · obtain ⟨r, xs, rfl, h1, h2⟩ := h.listE
    refine ⟨r, xs, rfl, Or.inl h1, by rw [h2.length, List.length_map], fun i hi x hx => ?_⟩
    obtain ⟨v, hv, hrow⟩ := h2.get (i := i) (d := intsD gs[i]) (by rw [List.getElem?_map, List.getElem?_eq_getElem hi]; rfl)
    obtain rfl : x = v := Option.some.inj (hx.symm.trans hv)
    obtain ⟨w, ts, rfl, hw1, hw2⟩ := hrow.listE
    obtain rfl := dpAll_intsE hw2
    exact ⟨w, rfl, Or.inl hw1⟩
  · obtain ⟨r, xs, rfl, h1, h2⟩ := h.tupE
    refine ⟨r, xs, rfl, Or.inr h1, by rw [h2.length, List.length_map], fun i hi x hx => ?_⟩
    obtain ⟨v, hv, hrow⟩ := h2.get (i := i) (d := intsT gs[i]) (by rw [List.getElem?_map, List.getElem?_eq_getElem hi]; rfl)
    obtain rfl : x = v := Option.some.inj (hx.symm.trans hv)
    obtain ⟨w, ts, rfl, hw1, hw2⟩ := hrow.tupE
    obtain rfl := dpAll_intsE hw2
    exact ⟨w, rfl, Or.inr hw1⟩
/-- ascending, each once -/
def Up (es : List Int) : Prop := es.Pairwise (· < ·)
theorem up_ext : ∀ {a b : List Int}, Up a → Up b → (∀ x, x ∈ a ↔ x ∈ b) → a = b
  | [], [], _, _, _ => rfl
  | [], y :: _, _, _, h => nomatch (h y).mpr List.mem_cons_self
  | x :: _, [], _, _, h => nomatch (h x).mp List.mem_cons_self
  | x :: a, y :: b, ha, hb, h => by
    obtain ⟨ha1, ha2⟩ := List.pairwise_cons.mp ha
    obtain ⟨hb1, hb2⟩ := List.pairwise_cons.mp hb
    have e : x = y := by
      rcases List.mem_cons.mp ((h x).mp List.mem_cons_self) with q | q
      · exact q
      · rcases List.mem_cons.mp ((h y).mpr List.mem_cons_self) with r | r
        · exact r.symm
        · have h1 := hb1 x q
          have h2 := ha1 y r
          omega
    subst e
    rw [up_ext ha2 hb2 fun z => ?_]
    constructor
    · intro q
      rcases List.mem_cons.mp ((h z).mp (List.mem_cons_of_mem _ q)) with r | r
      · have := ha1 z q; omega
      · exact r
    · intro q
      rcases List.mem_cons.mp ((h z).mpr (List.mem_cons_of_mem _ q)) with r | r
      · have := hb1 z q; omega
      · exact r
end Vf
set_option Elab.async false
set_option linter.all false
set_option maxRecDepth 100000
set_option maxHeartbeats 4000000
namespace Vf
open PySem L2 PyProof.Rows
theorem strange_none {z y : Str} (h : strange z y = none) : ∀ c ∈ TL.tl y, c ∈ TL.tl z := fun c hc => by
  have := List.findIdx?_eq_none_iff.mp h c hc
  simpa using this
def isDig (c : Nat) : Bool := decide (48 ≤ c) && decide (c ≤ 57)
theorem dig_uni : ∀ c : Nat, c < 128 → Unicode.isDigit c = isDig c := by decide +kernel
/-- the whole number that a word is -/
def numW (w : List Nat) : Option Nat := if w.all isDig = true ∧ w ≠ [] ∧ w.length ≤ 4000 ∧ (w.head? = some 48 → w = [48]) then some (NumText.digitsVal w) else none
theorem uni_all {x : Str} : (Txt.isascii x && Txt.isdigit x) = true ↔ (TL.tl x).all isDig = true ∧ TL.tl x ≠ [] := by
  unfold Txt.isascii Txt.isdigit
  rw [Bool.and_eq_true, Bool.and_eq_true, ← Array.all_toList, ← Array.all_toList, List.all_eq_true, List.all_eq_true, List.all_eq_true, decide_eq_true_eq]
  have hlen : x.length > 0 ↔ TL.tl x ≠ [] := by rw [TL.len_tl]; exact List.length_pos_iff
  constructor
  · rintro ⟨h1, h2, h3⟩
    refine ⟨fun c hc => ?_, hlen.mp h2⟩
    have := h3 c hc
    rw [dig_uni c (by simpa using h1 c hc)] at this
    exact this
  · rintro ⟨h1, h2⟩
    have h128 : ∀ c ∈ TL.tl x, c < 128 := fun c hc => by
      have := h1 c hc
      unfold isDig at this
      rw [Bool.and_eq_true, decide_eq_true_eq, decide_eq_true_eq] at this
      omega
    refine ⟨fun c hc => by simpa using h128 c hc, hlen.mpr h2, fun c hc => ?_⟩
    rw [dig_uni c (h128 c hc)]
    exact h1 c hc
theorem dig_all {w : List Nat} (h : w.all isDig = true) : NumText.AllDigits w := by
  intro c hc
  have := List.all_eq_true.mp h c hc
  unfold isDig at this
  rw [Bool.and_eq_true, decide_eq_true_eq, decide_eq_true_eq] at this
  exact this
def srt (L l : List Nat) : List Nat := L.filter fun a => decide (a ∈ l)
theorem srt_mem {L l : List Nat} (h : ∀ a ∈ l, a ∈ L) (a : Nat) : a ∈ srt L l ↔ a ∈ l := by
  unfold srt
  rw [List.mem_filter, decide_eq_true_eq]
  exact ⟨fun q => q.2, fun q => ⟨h a q, q⟩⟩
theorem inc_ext : ∀ {a b : List Nat}, a.Pairwise (· < ·) → b.Pairwise (· < ·) → (∀ x, x ∈ a ↔ x ∈ b) → a = b
  | [], [], _, _, _ => rfl
  | [], y :: b, _, _, h => nomatch (h y).mpr List.mem_cons_self
  | x :: a, [], _, _, h => nomatch (h x).mp List.mem_cons_self
  | x :: a, y :: b, ha, hb, h => by
    obtain ⟨a1, a2⟩ := List.pairwise_cons.mp ha
    obtain ⟨b1, b2⟩ := List.pairwise_cons.mp hb
    have e : x = y := by
      rcases List.mem_cons.mp ((h x).mp List.mem_cons_self) with q | q
      · exact q
      · rcases List.mem_cons.mp ((h y).mpr List.mem_cons_self) with r | r
        · exact r.symm
        · have := a1 y r
          have := b1 x q
          omega
    subst e
    rw [inc_ext a2 b2 fun u => ⟨fun q => ?_, fun q => ?_⟩]
    · rcases List.mem_cons.mp ((h u).mp (List.mem_cons_of_mem _ q)) with r | r
      · have := a1 u q; omega
      · exact r
    · rcases List.mem_cons.mp ((h u).mpr (List.mem_cons_of_mem _ q)) with r | r
      · have := b1 u q; omega
      · exact r
theorem srt_eq {L l : List Nat} {ys : List Str} (hL : L.Pairwise (· < ·)) (hl : ∀ a ∈ l, a ∈ L) (h1 : PyProof.Rows.sortedS ys = true) (h2 : ys.Nodup) (h3 : ∀ k, k ∈ ys ↔ k ∈ l.map sg) : ys = (srt L l).map sg := by
  have e : ys = (ys.map fun y => (TL.tl y).headD 0).map sg := by
    rw [List.map_map]
    refine (List.map_id ys).symm.trans (List.map_congr_left fun y hy => ?_)
    obtain ⟨a, _, rfl⟩ := List.mem_map.mp ((h3 y).mp hy)
    rfl
  generalize ys.map (fun y => (TL.tl y).headD 0) = cs at e
  subst e
  have n1 : cs.Nodup := List.Pairwise.of_map sg (fun a b q => fun z => q (by rw [z])) h2
  have p1 : cs.Pairwise (· < ·) := (sorted_sg h1).imp₂ (S := fun a b => a ≠ b) (fun a b h1 h2 => by omega) n1
  have e2 : cs = srt L l := inc_ext p1 (hL.filter _) fun a => (show a ∈ cs ↔ a ∈ l from ?_).trans (srt_mem hl a).symm
  · rw [e2]
  refine ⟨fun q => ?_, fun q => ?_⟩
  · obtain ⟨b, hb, e⟩ := List.mem_map.mp ((h3 (sg a)).mp (List.mem_map.mpr ⟨a, q, rfl⟩))
    rw [← sg_inj e]; exact hb
  · obtain ⟨b, hb, e⟩ := List.mem_map.mp ((h3 (sg a)).mpr (List.mem_map.mpr ⟨a, q, rfl⟩))
    rw [← sg_inj e]; exact hb
def subs : List Nat → List (List Nat)
  | [] => [[]]
  | a :: r => subs r ++ (subs r).map (a :: ·)
theorem subs_len : ∀ L : List Nat, (subs L).length = 2 ^ L.length
  | [] => rfl
  | a :: r => by
    show (subs r ++ (subs r).map (a :: ·)).length = _
    rw [List.length_append, List.length_map, subs_len r, List.length_cons, Nat.pow_succ]
    omega
theorem eqv_strs (x y : List Str) : PyData.eqv (.list (x.map PyData.str)) (.list (y.map PyData.str)) = decide (x = y) := by
  rw [PyData.eqv]
  exact eqvAll_inj (fun a b => by rw [Bool.eq_iff_iff]; simp [PyData.eqv]) x y
theorem lay_sgs : ∀ {l : List Nat}, (∀ c ∈ l, c < 1114112) → PyData.canLayAll0 ((l.map sg).map PyData.str) = true
  | [], _ => by simp [PyData.canLayAll0]
  | c :: l, h => by
    have h1 := h c List.mem_cons_self
    have h2 := lay_sgs (l := l) fun d hd => h d (List.mem_cons_of_mem _ hd)
    have h3 : PyData.canLay0 (.str (sg c)) = true := by
      rw [PyData.canLay0]
      show PyData.strOk (sg c) = true
      unfold PyData.strOk
      rw [← Array.all_toList]
      show ([c].all (· < 0x110000)) = true
      simp [h1]
    simp only [List.map_cons, PyData.canLayAll0, h2, h3, Bool.and_self]
theorem shaped_sgs {l : List Nat} (h : ∀ c ∈ l, c < 1114112) : SeqAt.shaped (.list ((l.map sg).map PyData.str)) = true :=
  shaped_of (n := 1) (by rw [PyData.canLay0]; exact lay_sgs h) (by rw [PyData.depth, List.map_map]; have := depth_all (n := 0) (f := PyData.str ∘ sg) (fun _ => by simp [PyData.depth]) l; omega) (by decide)
theorem dpAll_strs (K : PySem.W.Frag) (H : Hp) : ∀ l : List Str, DpAll K H (l.map V.str) (l.map PyData.str)
  | [] => .nil
  | x :: l => .cons (.str x) (dpAll_strs K H l)
theorem map_sg_inj {a b : List Nat} (h : a.map sg = b.map sg) : a = b := by
  have := congrArg (List.map TL.tl) h
  rw [List.map_map, List.map_map] at this
  have e : ∀ l : List Nat, l.map (TL.tl ∘ sg) = l.map fun c => [c] := fun l => rfl
  rw [e, e] at this
  have f : ∀ l : List Nat, (l.map fun c => [c]).flatten = l := fun l => by
    induction l with
    | nil => rfl
    | cons c l ih => rw [List.map_cons, List.flatten_cons, ih]; rfl
  rw [← f a, ← f b, this]
theorem alpha_inc : alpha.Pairwise (· < ·) := by decide +kernel
theorem alpha_mem {c : Nat} : c ∈ alpha ↔ 97 ≤ c ∧ c ≤ 122 := by
  refine ⟨alpha_all c, fun h => ?_⟩
  have : ∀ d : Nat, d < 26 → 97 + d ∈ alpha := by decide +kernel
  have := this (c - 97) (by omega)
  rwa [show 97 + (c - 97) = c by omega] at this
def numV : Option Nat → V
  | none => .non
  | some n => .int (n : Nat)
section
variable {P : Program} {w : World} {K : PySem.W.Frag} {mg : Str → Option Value} {base : Heap}
def spReadN : Sp := fun vs H Q _ => ∃ x : Str, vs = [.str x] ∧ x.length ≤ 600 ∧ ∀ H', Same H H' → Q (numV (numW (TL.tl x))) H'
abbrev s_read_number : Stmt := top 10
abbrev N_read_number : List Str := ["word"]
abbrev P_read_number : List Str := ["word"]
theorem sc_read_number : FnScope N_read_number P_read_number (defScope s_read_number) := ⟨rfl, rfl, rfl, by decide +kernel, rfl, by decide +kernel, by decide +kernel⟩

theorem ok_readN {f : Addr} {fd : FuncData} (F : Fun K "read_number" "read_number" s_read_number f fd) (Tl : mg "len" = none) (Ti : mg "int" = none) (hmost : ∃ t, mg "MOST_DIGITS" = some (.int 4000 t)) : FnOk P w K mg base CX0 1 f fd P_read_number spReadN := by
  obtain ⟨mt, hmost⟩ := hmost
  refine F.ok sc_read_number (fun vs H Q E h => ?_) (fun cdv A outer s H vs Q E hr h => ?_)
  · obtain ⟨x, rfl, _⟩ := h
    rfl
  · obtain ⟨x, rfl, hl, k⟩ := h
    refine ⟨_, (pss_cons (ps_if (PW.pt (pw_or (pt_cmpR op_gt (pe_callB call_len (by rfl) Tl PySem.boot_len (pa_cons (pv 0) pa_nil)) (pe_glob (v := .int 4000) (by rfl) hmost ⟨_, rfl⟩) (nomark _)) (pw_or (pt_not (pt_val (pe_m0 PySem.F.slot_str_isascii PySem.F.type_str_isascii mt_isascii (pv 0)))) (pw_or1 (pt_not (pt_val (pe_m0 PySem.F.slot_str_isdigit PySem.F.type_str_isdigit mt_isdigit (pv 0)))))))) (pss_one (ps_ret pe_non)) pss_nil)
      (pss_cons (ps_if (PW.pt (pw_and (pt_cmpR op_eq (pe_ix ix_str (pv 0) pe_int (fun _ _ => rfl)) pe_str (nomark _)) (pw_and1 (pt_cmpR op_ne (pv 0) pe_str (nomark _))))) (pss_one (ps_ret pe_non)) pss_nil)
      (pss_one (ps_ret (pe_callTy call_int_str (by rfl) Ti boot_int (pa_cons (pv 0) pa_nil)))))), ?_⟩
    have hxs : x.length ≤ sizeLine := Nat.le_of_lt (small1000 (by omega))
    have bad : (Txt.isascii x && Txt.isdigit x) = false → Q .non H := fun h => by
      have := k H (Same.refl H)
      unfold numW at this
      rw [if_neg (fun q => by rw [uni_all.mpr ⟨q.1, q.2.1⟩] at h; cases h)] at this
      exact this
    refine ⟨_, rfl, _, _, rfl, ⟨hxs, rfl⟩, _, _, rfl, rfl, _, rfl, ite2 (fun c => absurd c (by simp; omega)) (fun _ => ?_)⟩
    refine ⟨_, rfl, ⟨_, rfl⟩, x, rfl, rfl, trivial, _, rfl, ?_⟩
    cases ha : Txt.isascii x with
    | false => exact bad (by rw [ha]; rfl)
    | true =>
      refine ⟨_, rfl, ⟨_, rfl⟩, x, rfl, rfl, trivial, _, rfl, ?_⟩
      cases hd : Txt.isdigit x with
      | false => exact bad (by rw [ha, hd]; rfl)
      | true =>
        obtain ⟨h1, h2⟩ := uni_all.mp (by rw [ha, hd]; rfl)
        obtain ⟨c0, r, hx⟩ : ∃ c0 r, TL.tl x = c0 :: r := by
          cases e : TL.tl x with
          | nil => exact absurd e h2
          | cons a b => exact ⟨a, b, rfl⟩
        have hc0 : (TL.tl x)[0]? = some c0 := by rw [hx]; rfl
        have e48 : ({ cps := #[c0] } : Str) = "0" ↔ c0 = 48 := ⟨fun q => sg_inj (q : sg c0 = sg 48), fun q => by rw [q]; rfl⟩
        have ex0 : x = "0" ↔ TL.tl x = [48] := ⟨fun q => by rw [q]; rfl, fun q => TL.ext_tl q⟩
        have hn : x.length = (TL.tl x).length := TL.len_tl x
        have good : (c0 = 48 → TL.tl x = [48]) → Q (.int ((NumText.digitsVal (TL.tl x) : Nat) : Int)) H := fun q => by
          have := k H (Same.refl H)
          unfold numW at this
          rw [if_pos ⟨h1, h2, by omega, fun z => by rw [hx] at z; exact q (Option.some.inj z)⟩] at this
          exact this
        have fin : (c0 = 48 → TL.tl x = [48]) → ∃ (a : Str) (n : Int), [V.str x] = [V.str a] ∧ intText? a = some n ∧ a.length ≤ 640 ∧ Q (V.int n) H := fun q =>
          ⟨x, _, rfl, intText_digits (x := x) (dig_all h1) h2 (by omega), by omega, good q⟩
        refine ⟨_, rfl, x, 0, c0, rfl, rfl, hxs, at_of' (show (0 : Int) = ((0 : Nat) : Int) from rfl) hc0, rfl, _, rfl, ite2 (fun c => ?_) (fun c => ?_)⟩
        · have c : c0 = 48 := e48.mp (by simpa using c)
          refine ⟨_, rfl, rfl, _, rfl, ite2 (fun c2 => ?_) (fun c2 => ?_)⟩
          · have c2 : x ≠ "0" := by simpa using c2
            have := k H (Same.refl H)
            unfold numW at this
            rw [if_neg (fun q => c2 (ex0.mpr (q.2.2.2 (by rw [hx, c]; rfl))))] at this
            exact this
          · have c2 : x = "0" := by simpa using c2
            exact ⟨_, rfl, fin fun _ => ex0.mp c2⟩
        · have c : c0 ≠ 48 := fun q => by rw [e48.mpr q] at c; simp at c
          exact ⟨_, rfl, fin fun q => absurd q c⟩
/-- one to three values, ascending -/
def okZ (z : List Nat) : Bool := (decide (1 ≤ z.length) && decide (z.length ≤ 3)) && (z.all (fun c => decide (97 ≤ c) && decide (c ≤ 122)) && decide (z.Pairwise (· < ·)))
def spAreV : Sp := fun vs H Q _ => ∃ x : Str, vs = [.str x] ∧ x.length ≤ 600 ∧ ∀ H', Same H H' → Q (.bl (okZ (TL.tl x))) H'
structure TxtAv (K : PySem.W.Frag) (mg : Str → Option Value) (fSP : Addr) : Prop where
  len : mg "len" = none
  list : mg "list" = none
  sorted : mg "sorted" = none
  set : mg "set" = none
  enumerate : mg "enumerate" = none
  mstrange_place : mg "strange_place" = some (.ref fSP)
  kstrange_place : PySem.W.keepIn K (.ref fSP) = true
abbrev s_are_values : Stmt := top 8
abbrev N_are_values : List Str := ["word"]
abbrev P_are_values : List Str := ["word"]
theorem sc_are_values : FnScope N_are_values P_are_values (defScope s_are_values) := ⟨rfl, rfl, rfl, by decide +kernel, rfl, by decide +kernel, by decide +kernel⟩

theorem ok_areV {f fSP : Addr} {fd fdSP : FuncData} (F : Fun K "are_values" "are_values" s_are_values f fd) (T : TxtAv K mg fSP) (FSP : Fun K "strange_place" "strange_place" s_strange_place fSP fdSP) (bstrange_place : Binds K fdSP P_strange_place []) : FnOk P w K mg base CX0 2 f fd P_are_values spAreV := by
  have Gstrange_place : FnOk P w K mg base CX0 1 fSP fdSP P_strange_place spStrange := ok_strange FSP ⟨T.enumerate⟩
  refine F.ok sc_are_values (fun vs H Q E h => ?_) (fun cdv A outer s H vs Q E hr h => ?_)
  · obtain ⟨x, rfl, _⟩ := h
    rfl
  · obtain ⟨x, rfl, hl, k⟩ := h
    have hu := hu_of hr
    refine ⟨_, (pss_cons (ps_if (PW.pt (pw_or (pt_not (pt_chain op_le op_le pe_int (pe_callB call_len (by rfl) T.len PySem.boot_len (pa_cons (pv 0) pa_nil)) pe_int)) (pw_or1 (pt_cmpR op_notN (pe_call Gstrange_place (hr.mono (by decide)) (by rfl) T.mstrange_place T.kstrange_place bstrange_place .nil pass0 (pa_cons pe_str (pa_cons (pv 0) pa_nil))) pe_non (nomark _))))) (pss_one (ps_ret pe_bl)) pss_nil)
      (pss_one (ps_ret (pe_cmpR (op_eqD hr.units) (pe_callTy (call_listT rfl) (by rfl) T.list boot_list (pa_cons (pv 0) pa_nil)) (pe_callB (call_sortT rfl) (by rfl) T.sorted boot_sorted (pa_cons (pe_callTy (call_setT rfl) (by rfl) T.set (by decide +kernel) (pa_cons (pv 0) pa_nil)) pa_nil)) (nomark _))))), ?_⟩
    have hxs : x.length ≤ sizeLine := Nat.le_of_lt (small1000 (by omega))
    have hn : x.length = (TL.tl x).length := TL.len_tl x
    have key := k
    unfold okZ at key
    have bad : (decide (1 ≤ (TL.tl x).length) && decide ((TL.tl x).length ≤ 3)) = false → ∀ H', Same H H' → Q (.bl false) H' := fun h H' s => by
      have := key H' s
      rw [h, Bool.false_and] at this
      exact this
    refine ⟨_, rfl, _, _, rfl, ⟨hxs, rfl⟩, _, _, rfl, rfl, _, rfl, ?_⟩
    by_cases l1 : 1 ≤ x.length
    · rw [if_pos (decide_eq_true (by omega))]
      refine ⟨_, _, rfl, rfl, _, rfl, ?_⟩
      by_cases l3 : x.length ≤ 3
      · refine ite2 (fun c => absurd c (by simp; omega)) (fun _ => ?_)
        refine ⟨_, rfl, "abcdefghijklmnopqrstuvwxyz", x, rfl, fun H1 s1 => ⟨rfl, _, rfl, ?_⟩⟩
        have hpre : (decide (1 ≤ (TL.tl x).length) && decide ((TL.tl x).length ≤ 3)) = true := by rw [Bool.and_eq_true, decide_eq_true_eq, decide_eq_true_eq]; omega
        rw [hpre, Bool.true_and] at key
        cases hs : strange "abcdefghijklmnopqrstuvwxyz" x with
        | some i =>
          refine ite2 (fun _ => ?_) (fun c => absurd (by simp) c)
          have hbad : ((TL.tl x).all fun c => decide (97 ≤ c) && decide (c ≤ 122)) = false := by
            rw [← Bool.not_eq_true, List.all_eq_true]
            intro q
            have h2 : strange "abcdefghijklmnopqrstuvwxyz" x = none := List.findIdx?_eq_none_iff.mpr fun c hc => by
              have := q c hc
              rw [Bool.and_eq_true, decide_eq_true_eq, decide_eq_true_eq] at this
              have h3 : c ∈ TL.tl "abcdefghijklmnopqrstuvwxyz" := alpha_mem.mpr this
              simpa using h3
            rw [h2] at hs
            cases hs
          have := key H1 s1
          rw [hbad, Bool.false_and] at this
          exact this
        | none =>
          refine ite2 (fun c => absurd c (by simp)) (fun _ => ?_)
          have hin : ∀ c ∈ TL.tl x, c ∈ alpha := fun c hc => strange_none hs c hc
          have hall : ((TL.tl x).all fun c => decide (97 ≤ c) && decide (c ≤ 122)) = true := by
            rw [List.all_eq_true]
            intro c hc
            rw [Bool.and_eq_true, decide_eq_true_eq, decide_eq_true_eq]
            exact alpha_mem.mp (hin c hc)
          rw [hall, Bool.true_and] at key
          refine ⟨_, rfl, x, rfl, by omega, fun p hp => ⟨_, rfl, (TL.tl x).map sg, Or.inl ⟨x, rfl, rfl⟩, by rw [List.length_map]; omega, fun q nn hq hcnt hnn => ⟨q, _, nn, rfl, upd_same, by rw [List.length_map] at hnn; omega, fun ys p2 hso hnd hmem hp2 => ?_⟩⟩⟩
          have eys : ys = (srt alpha (TL.tl x)).map sg := srt_eq alpha_inc hin hso hnd fun k => by rw [hmem k, decide_eq_true_eq]
          subst eys
          generalize TxO _ _ q _ nn = oT at hp2 ⊢
          have s3 := ((same_new (o := .lst (((TL.tl x).map sg).map V.str)) hp).trans (same_new (o := oT) hq)).trans (same_new (o := .lst (((srt alpha (TL.tl x)).map sg).map V.str)) hp2)
          have hp' := (same_new (o := .lst (((srt alpha (TL.tl x)).map sg).map V.str)) hp2) _ _ ((same_new (o := oT) hq) _ _ (upd_same (H := H1) (a := p) (o := .lst (((TL.tl x).map sg).map V.str))))
          have hsm : ∀ c ∈ srt alpha (TL.tl x), c < 1114112 := fun c hc => by
            have := alpha_mem.mp (List.mem_filter.mp hc).1
            omega
          refine ⟨.list (((TL.tl x).map sg).map PyData.str), .list (((srt alpha (TL.tl x)).map sg).map PyData.str), .lst (SqL.of hp') (dpAll_strs _ _ _), .lst (SqL.of upd_same) (dpAll_strs _ _ _), shaped_sgs (fun c hc => by have := alpha_mem.mp (hin c hc); omega), shaped_sgs hsm, ?_⟩
          rw [eqv_strs]
          have e : decide ((TL.tl x).map sg = (srt alpha (TL.tl x)).map sg) = decide ((TL.tl x).Pairwise (· < ·)) := by
            rw [Bool.eq_iff_iff, decide_eq_true_eq, decide_eq_true_eq]
            constructor
            · intro h
              rw [map_sg_inj h]
              exact alpha_inc.filter _
            · intro h
              have := inc_ext h (alpha_inc.filter fun a => decide (a ∈ TL.tl x)) fun a => (srt_mem hin a).symm
              rw [show srt alpha (TL.tl x) = TL.tl x from this.symm]
          rw [e]
          exact key _ (s1.trans s3)
      · refine ite2 (fun _ => ?_) (fun c => absurd (by simp; omega) c)
        exact bad (by rw [Bool.and_eq_false_iff]; right; rw [decide_eq_false_iff_not]; omega) H (Same.refl H)
    · rw [if_neg (by rw [decide_eq_true_eq]; omega)]
      refine ⟨_, rfl, ite2 (fun _ => ?_) (fun c => absurd rfl c)⟩
      exact bad (by rw [Bool.and_eq_false_iff]; left; rw [decide_eq_false_iff_not]; omega) H (Same.refl H)
end
end Vf
set_option Elab.async false
set_option linter.all false
set_option maxRecDepth 100000
set_option maxHeartbeats 4000000
/-! keys as data: membership and index in lists of keys -/
namespace Vf
open PySem L2 PyProof.Rows
theorem hu65 {k : Nat} {A : Around} (hr : Room k A) : A.units + 65 < cLine := by have := hr.un; omega
def kD : Key → PyData
  | .inl n => .int n
  | .inr s => .str s
def memD (k : List Key) : PyData := .tuple (k.map kD)
theorem eqv_kD (x y : Key) : PyData.eqv (kD x) (kD y) = decide (x = y) := by
  rw [Bool.eq_iff_iff]
  cases x <;> cases y <;> simp [kD, PyData.eqv]
theorem eqv_memD (x y : List Key) : PyData.eqv (memD x) (memD y) = decide (x = y) := by
  show PyData.eqv (.tuple (x.map kD)) (.tuple (y.map kD)) = _
  rw [PyData.eqv]; exact eqvAll_inj eqv_kD x y
def okK : Key → Prop
  | .inl _ => True
  | .inr s => PyData.strOk s = true
def okM (k : List Key) : Prop := ∀ x ∈ k, okK x
theorem lay_kD {x : Key} (h : okK x) : PyData.canLay0 (kD x) = true := by
  cases x with
  | inl n => simp [kD, PyData.canLay0]
  | inr s => simp only [kD, PyData.canLay0]; exact h
theorem lay_kDs : ∀ {k : List Key}, okM k → PyData.canLayAll0 (k.map kD) = true
  | [], _ => by simp [PyData.canLayAll0]
  | x :: r, h => by
    simp only [List.map_cons, PyData.canLayAll0, Bool.and_eq_true]
    exact ⟨lay_kD (h x List.mem_cons_self), lay_kDs fun y hy => h y (List.mem_cons_of_mem _ hy)⟩
theorem dep_kD (x : Key) : PyData.depth (kD x) ≤ 0 := by cases x <;> simp [kD, PyData.depth]
theorem dep_memD (k : List Key) : PyData.depth (memD k) ≤ 1 := by
  show PyData.depth (.tuple (k.map kD)) ≤ 1
  rw [PyData.depth]; have := depth_all dep_kD k; omega
theorem lay_memDs : ∀ {ks : List (List Key)}, (∀ k ∈ ks, okM k) → PyData.canLayAll0 (ks.map memD) = true
  | [], _ => by simp [PyData.canLayAll0]
  | x :: r, h => by
    simp only [List.map_cons, PyData.canLayAll0, Bool.and_eq_true]
    refine ⟨?_, lay_memDs fun y hy => h y (List.mem_cons_of_mem _ hy)⟩
    show PyData.canLay0 (.tuple (x.map kD)) = true
    simp only [PyData.canLay0]
    exact lay_kDs (h x List.mem_cons_self)
theorem shaped_memD {k : List Key} (h : okM k) : SeqAt.shaped (memD k) = true := shaped_of (n := 1) (by
    show PyData.canLay0 (.tuple (k.map kD)) = true
    simp only [PyData.canLay0]
    exact lay_kDs h) (dep_memD k) (by decide)
theorem shaped_memDs {ks : List (List Key)} (h : ∀ k ∈ ks, okM k) : SeqAt.shaped (.list (ks.map memD)) = true := shaped_of (n := 2) (by
    simp only [PyData.canLay0]
    exact lay_memDs h) (by rw [PyData.depth]; have := depth_all dep_memD ks; omega) (by decide)
theorem dpAll_k {K : PySem.W.Frag} (H : Hp) : ∀ k : List Key, DpAll K H (k.map kV) (k.map kD)
  | [] => .nil
  | .inl n :: k => .cons (.int n) (dpAll_k H k)
  | .inr s :: k => .cons (.str s) (dpAll_k H k)
theorem dp_mem {K : PySem.W.Frag} {H : Hp} {t : Addr} {k : List Key} (h : H t = some (.tup (k.map kV))) : Dp K H (.ref t) (memD k) := .tup (SqT.of h) (dpAll_k H k)

def mkS (l : List Nat) : Str := ⟨l.toArray⟩
theorem tl_mkS (l : List Nat) : TL.tl (mkS l) = l := by simp [mkS, TL.tl]
theorem mkS_tl (y : Str) : mkS (TL.tl y) = y := TL.ext_tl (tl_mkS _)
theorem mkS_snoc (l : List Nat) (c : Nat) : mkS l ++ sg c = mkS (l ++ [c]) := TL.ext_tl (by rw [TL.tl_append, tl_mkS, tl_mkS, sg_tl])
theorem mkS_len (l : List Nat) : (mkS l).length = l.length := by rw [TL.len_tl, tl_mkS]
theorem small13 {n : Nat} (h : n ≤ 100000) : n ≤ sizeLine := Nat.le_trans h (by decide)
/-- keys that are data -/
structure KdD {κ : Type} [DecidableEq κ] (kd : Kd κ) where
  dat : κ → PyData
  ok : κ → Prop
  dp : ∀ {K : PySem.W.Frag} {H : Hp} {v : V} {k : κ}, kd.at_ H v k → Dp K H v (dat k)
  eqv : ∀ a b, PyData.eqv (dat a) (dat b) = decide (a = b)
  lay : ∀ k, ok k → PyData.canLay0 (dat k) = true
  dep : ∀ k, PyData.depth (dat k) ≤ 1
def kddK : KdD kdK where
  dat := kD
  ok := okK
  dp := fun {K H v k} h => by
    cases k with
    | inl n => obtain rfl : v = .int n := h; exact .int n
    | inr s => obtain rfl : v = .str s := h; exact .str s
  eqv := eqv_kD
  lay := fun k h => lay_kD h
  dep := fun k => Nat.le_trans (dep_kD k) (by decide)
def kddT : KdD kdT where
  dat := memD
  ok := okM
  dp := fun {K H v k} h => by
    obtain ⟨b, rfl, hb⟩ := h
    exact dp_mem hb
  eqv := eqv_memD
  lay := fun k h => by
    show PyData.canLay0 (.tuple (k.map kD)) = true
    simp only [PyData.canLay0]
    exact lay_kDs h
  dep := dep_memD
section
variable {κ : Type} [DecidableEq κ] {kd : Kd κ} (D : KdD kd)
theorem KdD.layAll : ∀ {ks : List κ}, (∀ k ∈ ks, D.ok k) → PyData.canLayAll0 (ks.map D.dat) = true
  | [], _ => by simp [PyData.canLayAll0]
  | x :: r, h => by
    simp only [List.map_cons, PyData.canLayAll0, Bool.and_eq_true]
    exact ⟨D.lay x (h x List.mem_cons_self), KdD.layAll fun y hy => h y (List.mem_cons_of_mem _ hy)⟩
theorem KdD.shaped {k : κ} (h : D.ok k) : SeqAt.shaped (D.dat k) = true := shaped_of (n := 1) (D.lay k h) (D.dep k) (by decide)
theorem KdD.shapeds {ks : List κ} (h : ∀ k ∈ ks, D.ok k) : SeqAt.shaped (.list (ks.map D.dat)) = true := shaped_of (n := 2) (by
    simp only [PyData.canLay0]
    exact D.layAll h) (by rw [PyData.depth]; have := depth_all D.dep ks; omega) (by decide)
theorem KdD.any (ks : List κ) (k : κ) : ((ks.map D.dat).any fun z => PyData.eqv z (D.dat k)) = true ↔ k ∈ ks := by
  simp only [List.any_map, List.any_eq_true, Function.comp_apply, D.eqv, decide_eq_true_eq]
  exact ⟨fun ⟨x, hx, e⟩ => by rw [← e]; exact hx, fun h => ⟨k, h, rfl⟩⟩
theorem KdD.dps {K : PySem.W.Frag} {H : Hp} : ∀ {vs : List V} {ks : List κ}, Forall2 (kd.at_ H) vs ks → DpAll K H vs (ks.map D.dat)
  | [], [], _ => .nil
  | [], _ :: _, h => by have := h.1; cases this
  | _ :: _, [], h => by have := h.1; cases this
  | v :: vs, k :: ks, h => .cons (D.dp (h.2 0 v k rfl rfl)) (KdD.dps ⟨by have := h.1; simpa using this, fun i x y e1 e2 => h.2 (i + 1) x y e1 e2⟩)
end
theorem mt_indexDK {X : Cx} {K : PySem.W.Frag} (hK : X.K = K) (hu : X.A.units + 65 < cLine) : MtR X "list.index" (rIndexD K) := by subst hK; exact mt_indexD hu
theorem pe_bmK {X : Cx} {K : PySem.W.Frag} (hK : X.K = K) {T id : String} {name : Str} {r : V → List V → Hp → VK → Prop} {o e : Expr} {es : List Expr} {to : TE} {t : TA} {apos cpos : Pos} (pa : PlainAttrs T) (slot : Slot T name id) (hty : typeOf (.builtin id) = pure (.type "method_descriptor")) (hm : MtR X id r) (ho : PE X o to) (ha : PA X (e :: es) t)
    (hbase : attributeBase o name X.env (eval o X.env) = eval o X.env := by rfl)
    (hfew : ((backTo cpos (starEach (e :: es) X.env)).all (fun x => !x.1) && (backToKw cpos (keywordEach [] X.env)).all (fun x => x.1.isSome)
      && decide ((e :: es).length + ([] : List Keyword).length + (if ([] : List Keyword).isEmpty then 0 else 1) < 30)) = true := by rfl)
    (hline : (apos.endLine == cpos.line) = true := by rfl) (hs : starEach (e :: es) X.env = (false, eval e X.env) :: starEach es X.env := by rfl) (hplain : (backTo cpos (starEach es X.env)).any (·.1) = false := by rfl) :
    PE X (.Call (.Attribute o name apos) (e :: es) [] cpos) (tBM K T r to t) := by
  subst hK; exact pe_bm pa slot hty hm ho ha hbase hfew hline hs hplain
/-- a def that may raise, where it raises nothing -/
theorem FnOk.calm {P : Program} {w : World} {K : PySem.W.Frag} {mg : Str → Option Value} {base : Heap} {k : Nat} {f : Addr} {fd : FuncData} {ps : List Str} {sp : Sp} (F : FnOk P w K mg base (L2.CX P w) k f fd ps sp) : FnOk P w K mg base CX0 k f fd ps (fun vs H Q _ => sp vs H Q E0) :=
  ⟨fun vs H Q E q => F.len _ _ _ _ q, fun A outer s H args us vs Q E hr he hb hv hs => codeAny_mono (F.run A outer s H args us vs Q E0 hr he hb hv hs) fun r s' h => by
    cases r with
    | error e =>
      obtain ⟨_, _, _, _, _, _, _, _, _, _, _, _, z⟩ := h
      exact z.elim
    | ok fl => cases fl <;> exact h⟩
/-! where lambdas stand -/
def stVal : Stmt → Expr
  | .Assign _ v _ => v
  | .Return (some v) _ => v
  | _ => .Constant .none 0 ⟨0, 0, 0, 0⟩
def argN : Expr → Nat → Expr
  | .Call _ as _ _, i => as.getD i (.Constant .none 0 ⟨0, 0, 0, 0⟩)
  | e, _ => e
def lamScope : Expr → Scope
  | .Lambda _ _ s _ => s
  | _ => default
def lamBody : Expr → Expr
  | .Lambda _ b _ _ => b
  | e => e
def lamArgs : Expr → Arguments
  | .Lambda a _ _ _ => a
  | _ => default

open NdefX LamX in
def LF (e : Expr) (qual : Str) (cl : List (Str × Addr)) (c : Addr) : NF := ⟨"<lambda>", qual, lamArgs e, [], lamScope e, cl, c⟩
def forBody : Stmt → Nat → Stmt
  | .For _ _ b _ _, j => b.getD j (.Pass ⟨0, 0, 0, 0⟩)
  | s, _ => s
def ifTest : Stmt → Expr
  | .If t _ _ _ => t
  | _ => .Constant .none 0 ⟨0, 0, 0, 0⟩
def cmpLeft : Expr → Expr
  | .Compare l _ _ _ => l
  | e => e
def boolN : Expr → Nat → Expr
  | .BoolOp _ vs _, j => vs.getD j (.Constant .none 0 ⟨0, 0, 0, 0⟩)
  | e, _ => e
end Vf
set_option Elab.async false
set_option linter.all false
set_option maxRecDepth 100000
set_option maxHeartbeats 4000000
namespace Vf
open PySem L2 PyProof.Rows
/-- the words of a line, the lines of a text -/
def wordsOf (l : List Nat) : List (List Nat) := (TL.spl [32] 0 [] l).filter fun w => decide (w ≠ [])
def linesOf (t : List Nat) : List (List Nat) := TL.spl [10] 0 [] t
def okN (n : Nat) (w : List Nat) : Bool := match numW w with
  | some k => decide (k < n)
  | none => false
def valN (w : List Nat) : Nat := (numW w).getD 0
end Vf
set_option Elab.async false
set_option linter.all false
set_option maxRecDepth 100000
set_option maxHeartbeats 4000000
namespace Vf
open PySem L2 PyProof.Rows
theorem ixN_nat {n i : Nat} (h : i < n) : ixN n (i : Int) = some i := by
  unfold ixN
  rw [if_pos (by omega), if_pos (by omega)]; simp
theorem cutV_toN {xs : List V} {j : Nat} : cutV xs none (some (j : Int)) = xs.take j := by
  unfold cutV
  rw [HT.sIx_none, HT.sIx_nat, List.drop_zero, Nat.sub_zero]
  by_cases h : j ≤ xs.length
  · rw [Nat.min_eq_left h]
  · rw [Nat.min_eq_right (by omega), List.take_of_length_le (Nat.le_refl _), List.take_of_length_le (by omega)]
theorem cutV_fromN {xs : List V} {j : Nat} : cutV xs (some (j : Int)) none = xs.drop j := by
  unfold cutV
  rw [HT.sIx_none, HT.sIx_nat]
  by_cases h : j ≤ xs.length
  · rw [Nat.min_eq_left h]; exact List.take_of_length_le (by rw [List.length_drop]; exact Nat.le_refl _)
  · rw [Nat.min_eq_right (by omega), List.drop_of_length_le (Nat.le_refl _), List.drop_of_length_le (by omega), List.take_nil]
theorem spl_len (S : List Nat) : ∀ (k : Nat) (acc l : List Nat), ∀ p ∈ TL.spl S k acc l, p.length ≤ acc.length + l.length
  | k, acc, [], p, h => by
    rw [TL.spl_nil, List.mem_singleton] at h
    rw [h]
    exact Nat.le_add_right _ _
  | 0, acc, c :: r, p, h => by
    have e : TL.spl S 0 acc (c :: r) = if TL.pre S (c :: r) = true then acc :: TL.spl S (S.length - 1) [] r else TL.spl S 0 (acc ++ [c]) r := rfl
    rw [e] at h
    split at h
    · rcases List.mem_cons.mp h with q | q
      · rw [q]; exact Nat.le_add_right _ _
      · have := spl_len S _ [] r p q
        rw [List.length_cons]
        show p.length ≤ _
        rw [List.length_nil] at this
        omega
    · have := spl_len S 0 _ r p h
      rw [List.length_append, List.length_singleton] at this
      rw [List.length_cons]
      omega
  | k + 1, acc, c :: r, p, h => by
    have := spl_len S k acc r p h
    rw [List.length_cons]
    omega
theorem split_nl (x : Str) : Txt.split x "\n" = (linesOf (TL.tl x)).map mkS := by
  have := SX.split_S (a := TL.tl x) (b := [10]) (by decide) (by decide)
  rw [show SX.S (TL.tl x) = x from mkS_tl x, show SX.S [10] = ("\n" : Str) by rfl] at this
  exact this
theorem split_sp (x : Str) : Txt.split x " " = (TL.spl [32] 0 [] (TL.tl x)).map mkS := by
  have := SX.split_S (a := TL.tl x) (b := [32]) (by decide) (by decide)
  rw [show SX.S (TL.tl x) = x from mkS_tl x, show SX.S [32] = (" " : Str) by rfl] at this
  exact this
theorem spl_ne (S : List Nat) : ∀ (k : Nat) (acc l : List Nat), TL.spl S k acc l ≠ []
  | k, acc, [] => by rw [TL.spl_nil]; exact List.cons_ne_nil _ _
  | 0, acc, c :: r => by
    have e : TL.spl S 0 acc (c :: r) = if TL.pre S (c :: r) = true then acc :: TL.spl S (S.length - 1) [] r else TL.spl S 0 (acc ++ [c]) r := rfl
    rw [e]
    split
    · exact List.cons_ne_nil _ _
    · exact spl_ne S 0 _ r
  | k + 1, acc, c :: r => spl_ne S k acc r
def headZ (title : List Nat) : List (List (List Nat)) → Option (List Nat)
  | [t, z] :: _ => if t = title ∧ okZ z = true then some z else none
  | _ => none
theorem headZ_none {t : List Nat} {W : List (List Nat)} {L : List (List (List Nat))} (h : W.length ≠ 2) : headZ t (W :: L) = none := by
  rcases W with _ | ⟨a, _ | ⟨b, _ | ⟨c, r⟩⟩⟩
  · rfl
  · rfl
  · exact absurd rfl h
  · rfl
theorem headZ_two {t a b : List Nat} {L : List (List (List Nat))} : headZ t ([a, b] :: L) = if a = t ∧ okZ b = true then some b else none := rfl
def textL (t : List Nat) : List (List (List Nat)) := (linesOf t).map wordsOf
def wordV (w : List Nat) : V := .str (mkS w)
/-- lists of words -/
def WordsAt (H : Hp) (r : Addr) (L : List (List (List Nat))) : Prop := ∃ rs : List Addr, H r = some (.lst (rs.map V.ref)) ∧ Forall2 (fun (a : Addr) (ws : List (List Nat)) => H a = some (.lst (ws.map wordV))) rs L
def EBT (CT : Addr) (H : Hp) (E : XK) (i : Int) : Prop := ∀ d H', Raised H H' d "line" (.int i) → E (.ref CT) (some d) H'
structure TxtRL (K : PySem.W.Frag) (mg : Str → Option Value) (B CT fT fAv : Addr) : Prop where
  base : BaseT K mg "CodeError" B
  bt : ErrT K mg "BadText" "line" CT fT
  len : mg "len" = none
  mare_values : mg "are_values" = some (.ref fAv)
  kare_values : PySem.W.keepIn K (.ref fAv) = true
section
variable {P : Program} {w : World} {K : PySem.W.Frag} {mg : Str → Option Value} {base : Heap}
abbrev s_BadText___init__ : Stmt := inClass (top 4) 0
abbrev N_BadText___init__ : List Str := ["self", "line"]
abbrev P_BadText___init__ : List Str := ["self", "line"]
theorem sc_BadText___init__ : FnScope N_BadText___init__ P_BadText___init__ (defScope s_BadText___init__) := ⟨rfl, rfl, rfl, by decide +kernel, rfl, by decide +kernel, by decide +kernel⟩

theorem ok_bt {f B C fI : Addr} {fd : FuncData} (F : Fun K "__init__" "BadText.__init__" s_BadText___init__ f fd) (Tb : BaseT K mg "CodeError" B) (T : ErrT K mg "BadText" "line" C fI) : FnOk P w K mg base CX0 1 f fd P_BadText___init__ (spErr C "line") := by
  refine F.ok sc_BadText___init__ (fun vs H Q E h => ?_) (fun cdv A outer s H vs Q E hr h => ?_)
  · obtain ⟨a, v, rfl, _⟩ := h
    rfl
  · obtain ⟨a, v, rfl, ha, k⟩ := h
    refine ⟨_, pss_cons (ps_expr (pe_clsinit Tb (by rfl) (pa_cons (pv 0) (pa_cons pe_str pa_nil)))) (pss_one (ps_ost (pv 0) (pv 1))), ?_⟩
    refine ⟨_, rfl, a, C, _, rfl, by show 1 ≤ 1000; decide, T.oex, ha, ?_⟩
    exact ⟨_, rfl, _, rfl, a, C, rfl, T.oex, T.nf, Or.inl ⟨ha, fun d h1 h2 => k d h1 h2⟩⟩
def spReadL (K : PySem.W.Frag) (CT : Addr) : Sp := fun vs H Q E => ∃ title text : Str, vs = [.str title, .str text] ∧ text.length ≤ 600 ∧
  (∀ z, headZ (TL.tl title) (textL (TL.tl text)) = some z → 2 ≤ (textL (TL.tl text)).length → ∀ t r H', Same H H' → H' t = some (.tup [.str (mkS z), .ref r]) → WordsAt H' r (textL (TL.tl text)).tail → Q (.ref t) H') ∧
  (headZ (TL.tl title) (textL (TL.tl text)) = none → EBT CT H E 1) ∧ (∀ z, headZ (TL.tl title) (textL (TL.tl text)) = some z → (textL (TL.tl text)).length < 2 → EBT CT H E 2)
abbrev s_read_lines : Stmt := top 9
abbrev N_read_lines : List Str := ["title", "text", "lines", "head", "line", "word"]
abbrev P_read_lines : List Str := ["title", "text"]
theorem sc_read_lines : FnScope N_read_lines P_read_lines (defScope s_read_lines) := ⟨rfl, rfl, rfl, by decide +kernel, rfl, by decide +kernel, by decide +kernel⟩

theorem ok_readL {f B CT fT fAv : Addr} {fd fdT fdAv : FuncData} (F : Fun K "read_lines" "read_lines" s_read_lines f fd) (T : TxtRL K mg B CT fT fAv) (FT : Fun K "__init__" "BadText.__init__" s_BadText___init__ fT fdT) (bT' : Binds K fdT P_BadText___init__ [])
    (Gare_values : FnOk P w K mg base CX0 2 fAv fdAv P_are_values spAreV) (bare_values : Binds K fdAv P_are_values []) : FnOk P w K mg base (L2.CX P w) 4 f fd P_read_lines (spReadL K CT) := by
  have GT' : FnOk P w K mg base CX0 1 fT fdT P_BadText___init__ (spErr CT "line") := ok_bt FT T.base T.bt
  refine F.okX sc_read_lines (fun vs H Q E h => ?_) (fun cdv A outer s H vs Q E hr h => ?_)
  · obtain ⟨title, text, rfl, _⟩ := h
    rfl
  · obtain ⟨title, text, rfl, hl, k1, k2, k3⟩ := h
    have hu := hu_of hr
    refine ⟨_, (pss_cons (ps_setLc (i := 2) (own := [("line", 4)]) (g := gName 4) (by rfl) sc_read_lines.nd rfl rfl (sw_true rfl rfl rfl (by decide +kernel)) (pi_seq (K := K) rfl (pe_split (pv 1) pe_str)) (blkOk_by (own := [("line", 4)]) (N := N_read_lines) (sc := defScope s_read_lines) (by decide +kernel)) (fun _ _ _ _ _ => pg_name (i := 4) sc_read_lines.nd rfl (Or.inl rfl)) (fun _ _ _ _ _ => pts_nil) (fun _ _ _ _ _ => (pe_lc (own := [("word", 5)]) (g := gName 5) (by rfl) sc_read_lines.nd (pi_seq (K := K) rfl (pe_split (pv 4) pe_str)) (blkOk_by (own := [("word", 5)]) (N := N_read_lines) (by with_unfolding_all rfl)) (fun _ _ _ _ _ => pg_name (i := 5) sc_read_lines.nd rfl (Or.inl rfl)) (fun _ _ _ _ _ => (pts_one (pt_txt (pv 5)))) (fun _ _ _ _ _ => (pv 5)))))
      (pss_cons (ps_set (i := 3) sc_read_lines.nd rfl (Or.inl rfl) (pe_ix ix_list (pv 2) pe_int (fun _ _ => rfl)))
      (pss_cons (ps_if (PW.pt (pw_or (pt_cmpR op_ne (pe_callB call_len (by rfl) T.len PySem.boot_len (pa_cons (pv 3) pa_nil)) pe_int (nomark _)) (pw_or (pt_cmpR op_ne (pe_ix ix_list (pv 3) pe_int (fun _ _ => rfl)) (pv 0) (nomark _)) (pw_or1 (pt_not (pt_val (pe_call Gare_values (hr.mono (by decide)) (by rfl) T.mare_values T.kare_values bare_values .nil pass0 (pa_cons (pe_ix ix_list (pv 3) pe_int (fun _ _ => rfl)) pa_nil)))))))) (pss_one (ps_raise rfl (takes_of rfl rfl rfl rfl) (pmk_oex T.bt.oex T.bt.iC T.bt.tI GT' (hr.mono (by decide)) bT' .nil pass0 (by rfl) T.bt.g (pa_cons pe_int pa_nil)))) pss_nil)
      (pss_cons (ps_if (pt_cmpR op_eq (pe_callB call_len (by rfl) T.len PySem.boot_len (pa_cons (pv 2) pa_nil)) pe_int (nomark _)) (pss_one (ps_raise rfl (takes_of rfl rfl rfl rfl) (pmk_oex T.bt.oex T.bt.iC T.bt.tI GT' (hr.mono (by decide)) bT' .nil pass0 (by rfl) T.bt.g (pa_cons pe_int pa_nil)))) pss_nil)
      (pss_one (ps_ret (pe_tup (pa_cons (pe_ix ix_list (pv 3) pe_int (fun _ _ => rfl)) (pa_cons (pe_slice sl_list (pv 2) (po_some pe_int) po_none) pa_nil))))))))), ?_⟩
    have hxs : text.length + 2 ≤ sizeLine := Nat.le_of_lt (small1000 (by omega))
    have hpl : ∀ p ∈ linesOf (TL.tl text), p.length ≤ 600 := fun p hp => by
      have := spl_len [10] 0 [] (TL.tl text) p hp
      rw [List.length_nil, ← TL.len_tl] at this
      omega
    have hnl : (linesOf (TL.tl text)).length ≤ 602 := by
      have h1 := PyProof.Rows.split_le text "\n"
      rw [split_nl, List.length_map] at h1
      omega
    refine ⟨_, rfl, ⟨_, rfl⟩, text, "\n", rfl, rfl, by decide +kernel, hxs, fun p hp => ?_⟩
    rw [split_nl]
    refine ⟨p, _, rfl, Or.inl (SqL.of upd_same), fun J hJ D hD => ?_⟩
    have s0 : Same H (L2.upd H p (.lst (((linesOf (TL.tl text)).map mkS).map V.str))) := same_new hp
    have hp0 : (L2.upd H p (.lst (((linesOf (TL.tl text)).map mkS).map V.str))) p = some (.lst (((linesOf (TL.tl text)).map mkS).map V.str)) := upd_same
    generalize L2.upd H p (.lst (((linesOf (TL.tl text)).map mkS).map V.str)) = H0 at s0 hp0 hJ hD ⊢
    refine lc_it hJ (fun i H1 => ∃ rs : List Addr, H1 D = some (.lst (rs.map V.ref)) ∧ Forall2 (fun (a : Addr) (ws : List (List Nat)) => H1 a = some (.lst (ws.map wordV))) rs ((textL (TL.tl text)).take i) ∧ (∀ r ∈ rs, r ≠ D) ∧ Same H0 H1)
      ⟨[], upd_same, ⟨rfl, fun i x y e1 e2 => nomatch e1⟩, (fun r hr => nomatch hr), same_new hD⟩ (fun i H1 _ ⟨_, _, _, _, s1⟩ => GSq.same s1) ?_ ?_
    · rintro i x H2 H1 hi ⟨rs, hD1, hf, hne, s1⟩ ⟨rfl, hx⟩
      rw [List.length_map, List.length_map] at hi
      have hti : i < (textL (TL.tl text)).length := by unfold textL; rw [List.length_map]; exact hi
      have hlrs : rs.length = i := by rw [hf.1, List.length_take]; omega
      obtain rfl : V.str (mkS (linesOf (TL.tl text))[i]) = x := by
        rw [List.getElem?_map, List.getElem?_map, List.getElem?_eq_getElem hi] at hx
        exact Option.some.inj hx
      have hwi := hpl _ (List.getElem_mem hi)
      have hml : (mkS (linesOf (TL.tl text))[i]).length ≤ 600 := by rw [TL.len_tl, tl_mkS]; exact hwi
      refine ⟨rfl, ?_⟩
      refine lcYes ?_
      refine ⟨_, rfl, ⟨_, rfl⟩, mkS (linesOf (TL.tl text))[i], " ", rfl, rfl, by decide +kernel, Nat.le_of_lt (small1000 (by omega)), fun q hq => ?_⟩
      rw [split_sp, tl_mkS]
      have hD2 := same_new (o := .lst (((TL.spl [32] 0 [] (linesOf (TL.tl text))[i]).map mkS).map V.str)) hq _ _ hD1
      have s2 := s1.trans (same_new (o := .lst (((TL.spl [32] 0 [] (linesOf (TL.tl text))[i]).map mkS).map V.str)) hq)
      have hf2 : Forall2 (fun (a : Addr) (ws : List (List Nat)) => (L2.upd H1 q (.lst (((TL.spl [32] 0 [] (linesOf (TL.tl text))[i]).map mkS).map V.str))) a = some (.lst (ws.map wordV))) rs ((textL (TL.tl text)).take i) := hf.imp fun x y _ h => same_new hq _ _ h
      refine ⟨q, _, rfl, Or.inl (SqL.of upd_same), fun J2 hJ2 D2 hD2' => ?_⟩
      generalize L2.upd H1 q (.lst (((TL.spl [32] 0 [] (linesOf (TL.tl text))[i]).map mkS).map V.str)) = H2 at hD2 s2 hf2 hJ2 hD2' ⊢
      have hspl : (TL.spl [32] 0 [] (linesOf (TL.tl text))[i]).length ≤ 602 := by
        have h1 := PyProof.Rows.split_le (mkS (linesOf (TL.tl text))[i]) " "
        rw [split_sp, List.length_map, tl_mkS] at h1
        omega
      have hspw : ∀ p ∈ TL.spl [32] 0 [] (linesOf (TL.tl text))[i], p.length ≤ 600 := fun p hp => by
        have := spl_len [32] 0 [] _ p hp
        rw [List.length_nil] at this
        omega
      generalize hsp : TL.spl [32] 0 [] (linesOf (TL.tl text))[i] = sp at hJ2 hspl hspw ⊢
      refine lc_it hJ2 (fun j H3 => H3 D2 = some (.lst (((sp.take j).filter fun w => decide (w ≠ [])).map wordV)) ∧ Same H2 H3) ⟨upd_same, same_new hD2'⟩ (fun j H3 _ ⟨_, s3⟩ => GSq.same s3) ?_ ?_
      · rintro j y H4 H3 hj ⟨hD3, s3⟩ ⟨rfl, hy⟩
        rw [List.length_map, List.length_map] at hj
        obtain rfl : V.str (mkS sp[j]) = y := by
          rw [List.getElem?_map, List.getElem?_map, List.getElem?_eq_getElem hj] at hy
          exact Option.some.inj hy
        have hwj := hspw _ (List.getElem_mem hj)
        refine ⟨rfl, ?_⟩
        refine ⟨_, rfl, mkS sp[j], rfl, Nat.le_of_lt (small1000 (by rw [TL.len_tl, tl_mkS]; omega)), ?_⟩
        rw [tl_mkS]
        have hlen : (((sp.take j).filter fun w => decide (w ≠ [])).map wordV).length < sizeLine := by
          rw [List.length_map]
          have h1 := List.length_filter_le (fun w => decide (w ≠ [])) (sp.take j)
          rw [List.length_take] at h1
          exact small1000 (by omega)
        by_cases hz : sp[j] = []
        · refine ite2 (fun c => absurd hz (by simpa using c)) (fun _ => ⟨?_, s3⟩)
          rw [take_more hj, List.filter_append, List.filter_cons_of_neg (by simp [hz]), List.filter_nil, List.append_nil]
          exact hD3
        · refine ite2 (fun _ => ?_) (fun c => absurd (by simpa using hz) c)
          refine ⟨_, rfl, _, hD3, hlen, ?_, s3.put hD2'⟩
          rw [upd_same, take_more hj, List.filter_append, List.filter_cons_of_pos (p := fun w => decide (w ≠ [])) (decide_eq_true hz), List.filter_nil, List.map_append]; rfl
      · rintro H3 ⟨hD3, s3⟩
        rw [List.length_map, List.length_map, List.take_length] at hD3
        have nD : D2 ≠ D := (ne_of_none hD2 hD2').symm
        refine ⟨_, s3 _ _ hD2, by rw [List.length_map]; exact small1000 (by omega), rs ++ [D2], by rw [upd_same, List.map_append]; rfl, ?_, fun r hr => ?_, (s2.trans s3).put hD⟩
        · rw [take_more hti]
          refine Forall2.snoc ⟨hf2.1, fun k x y e1 e2 => ?_⟩ ?_
          · show L2.upd _ D _ x = _
            rw [upd_ne (hne x (List.mem_of_getElem? e1))]
            exact s3 _ _ (hf2.2 k x y e1 e2)
          · rw [upd_ne nD, hD3]
            have e : (textL (TL.tl text))[i] = sp.filter fun w => decide (w ≠ []) := by
              show (List.map wordsOf (linesOf (TL.tl text)))[i]'(by rw [List.length_map]; exact hi) = _
              rw [List.getElem_map]
              unfold wordsOf
              rw [hsp]
            rw [e]
        · rcases List.mem_append.mp hr with h | h
          · exact hne r h
          · rw [List.mem_singleton.mp h]; exact nD
    · rintro H1 ⟨rs, hD1, hf, hne, s1⟩
      have eL : (textL (TL.tl text)).length = (linesOf (TL.tl text)).length := by unfold textL; rw [List.length_map]
      rw [List.length_map, List.length_map, ← eL, List.take_length] at hf
      have hww : ∀ W ∈ textL (TL.tl text), ∀ u ∈ W, u.length ≤ 600 := fun W hW u hu' => by
        obtain ⟨l, hl', rfl⟩ := List.mem_map.mp hW
        have h1 := spl_len [32] 0 [] l u (List.mem_filter.mp hu').1
        have h2 := hpl l hl'
        rw [List.length_nil] at h1
        omega
      have hne0 : textL (TL.tl text) ≠ [] := fun q => by
        unfold textL at q
        exact spl_ne [10] 0 [] (TL.tl text) (List.map_eq_nil_iff.mp q)
      have hLl : (textL (TL.tl text)).length ≤ 602 := by omega
      generalize textL (TL.tl text) = LS at k1 k2 k3 hf hww hne0 hLl
      have sH : Same H H1 := s0.trans s1
      clear hpl hnl eL hJ hD hp0
      obtain ⟨W, L, rfl⟩ : ∃ W L, LS = W :: L := by
        cases LS with
        | nil => exact absurd rfl hne0
        | cons a b => exact ⟨a, b, rfl⟩
      obtain ⟨h0, rs', rfl⟩ : ∃ a b, rs = a :: b := by
        cases rs with
        | nil => exact absurd hf.1 (by simp)
        | cons a b => exact ⟨a, b, rfl⟩
      have hh0 : H1 h0 = some (.lst (W.map wordV)) := hf.2 0 h0 W rfl rfl
      refine ⟨_, rfl, D, _, 0, .ref h0, rfl, rfl, SqL.of hD1, at_of' (show (0 : Int) = ((0 : Nat) : Int) from rfl) rfl, ?_⟩
      have rz : ∀ (i : Int) (σ : L2.St) (H2 : Hp), Same H H2 → EBT CT H E i → tMkO CT (spErr CT "line") [] (tCons (tC (.int i)) tNil) σ H2 (fun cls d H' => E cls d H') := fun i σ H2 s2 e => by
        refine ⟨by show 1 ≤ 1000; decide, fun a ha => ⟨a, _, rfl, upd_same, fun d hd hda => ⟨rfl, d, [("line", V.int i)], upd_same, ?_, ?_, ?_⟩⟩⟩
        · rw [upd_ne hda, upd_same]
        · rw [upd_ne hda] at hd; exact hd
        · rw [upd_ne hda] at hd
          exact e d _ ((raised_of ha hd hda).after s2)
      refine ⟨_, rfl, _, _, rfl, Or.inl ⟨_, SqL.of hh0, rfl⟩, rfl, _, rfl, ?_⟩
      by_cases hW : W.length = 2
      · refine ite2 (fun c => absurd c (by rw [List.length_map, hW]; simp)) (fun _ => ?_)
        obtain ⟨wt, wz, rfl⟩ : ∃ a b, W = [a, b] := by
          rcases W with _ | ⟨a, _ | ⟨b, _ | ⟨c, r⟩⟩⟩
          · cases hW
          · cases hW
          · exact ⟨a, b, rfl⟩
          · simp at hW
        have hzl := hww _ List.mem_cons_self wz (List.mem_cons_of_mem _ List.mem_cons_self)
        have ett : (mkS wt = title) ↔ wt = TL.tl title := ⟨fun q => by rw [← q, tl_mkS], fun q => by rw [q, mkS_tl]⟩
        rw [headZ_two] at k1 k2 k3
        refine ⟨_, rfl, h0, _, 0, .str (mkS wt), rfl, rfl, SqL.of hh0, at_of' (show (0 : Int) = ((0 : Nat) : Int) from rfl) rfl, _, rfl, rfl, _, rfl, ?_⟩
        by_cases ht : wt = TL.tl title
        · refine ite2 (fun c => absurd c (by rw [ett.mpr ht]; simp)) (fun _ => ?_)
          refine ⟨_, rfl, h0, _, 1, .str (mkS wz), rfl, rfl, SqL.of hh0, at_of' (show (1 : Int) = ((1 : Nat) : Int) from rfl) rfl, mkS wz, rfl, by rw [TL.len_tl, tl_mkS]; exact hzl, fun H2 s2 => ⟨_, rfl, ?_⟩⟩
          rw [tl_mkS]
          have sH2 := sH.trans s2
          cases hz : okZ wz with
          | false =>
            refine rz 1 _ _ sH2 (k2 ?_)
            rw [if_neg fun q => by rw [hz] at q; cases q.2]
          | true =>
            have hsome : (if wt = TL.tl title ∧ okZ wz = true then some wz else none) = some wz := if_pos ⟨ht, hz⟩
            have hD2 := s2 _ _ hD1
            refine ⟨_, rfl, _, _, rfl, Or.inl ⟨_, SqL.of hD2, rfl⟩, rfl, _, rfl, ?_⟩
            have hlen : (h0 :: rs').length = ([wt, wz] :: L).length := hf.1
            by_cases hL : ([wt, wz] :: L).length < 2
            · refine ite2 (fun _ => rz 2 _ _ sH2 (k3 wz hsome hL)) (fun c => absurd ?_ c)
              have : (h0 :: rs').length = 1 := by rw [hlen]; rw [List.length_cons] at hL ⊢; omega
              rw [List.length_map, this]
              simp
            · refine ite2 (fun c => absurd c ?_) (fun _ => ?_)
              · have : (h0 :: rs').length ≠ 1 := by rw [hlen]; omega
                rw [List.length_map]
                intro q
                have q := of_decide_eq_true q
                exact this (Int.ofNat.inj (V.int.inj q))
              · refine ⟨_, rfl, h0, _, 1, .str (mkS wz), rfl, rfl, SqL.of (s2 _ _ hh0), at_of' (show (1 : Int) = ((1 : Nat) : Int) from rfl) rfl, _, rfl, _, rfl, D, _, rfl, SqL.of hD2, fun r hr => ?_⟩
                rw [show (1 : Int) = ((1 : Nat) : Int) from rfl, cutV_fromN]
                refine ⟨by show 2 ≤ sizeLine; decide, fun tt htt => ?_⟩
                refine k1 wz hsome (by omega) tt r _ ((sH2.trans (same_new hr)).trans (same_new htt)) upd_same ⟨rs', same_new htt _ _ upd_same, ?_⟩
                refine ⟨Nat.succ.inj hlen, fun k x y e1 e2 => ?_⟩
                exact same_new htt _ _ (same_new hr _ _ (s2 _ _ (hf.2 (k + 1) x y e1 e2)))
        · refine ite2 (fun _ => ?_) (fun c => absurd (by simpa using fun q => ht (ett.mp q)) c)
          refine rz 1 _ _ sH (k2 ?_)
          rw [if_neg fun q => ht q.1]
      · refine ite2 (fun _ => ?_) (fun c => absurd (by rw [List.length_map]; simp; omega) c)
        exact rz 1 _ _ sH (k2 (headZ_none hW))
end
end Vf
set_option Elab.async false
set_option linter.all false
set_option maxRecDepth 100000
set_option maxHeartbeats 4000000
namespace Vf
open PySem L2 PyProof.Rows
theorem spl1 (acc r : List Nat) (c : Nat) : TL.spl [32] 0 acc (c :: r) = if c = 32 then acc :: TL.spl [32] 0 [] r else TL.spl [32] 0 (acc ++ [c]) r := by
  by_cases h : c = 32
  · rw [if_pos h, TL.spl_hit (by rw [h]; exact TL.pre_self [32] r)]
    rfl
  · rw [if_neg h, TL.spl_miss]
    rw [← Bool.not_eq_true]
    intro q
    unfold TL.pre at q
    simp at q
    omega
theorem spl_snoc : ∀ (y acc : List Nat) (c : Nat), TL.spl [32] 0 acc (y ++ [c]) = if c = 32 then TL.spl [32] 0 acc y ++ [[]] else (TL.spl [32] 0 acc y).dropLast ++ [(TL.spl [32] 0 acc y).getLast (spl_ne [32] 0 acc y) ++ [c]]
  | [], acc, c => by
    rw [List.nil_append, spl1]
    simp only [TL.spl_nil]
    by_cases h : c = 32
    · rw [if_pos h, if_pos h]; rfl
    · rw [if_neg h, if_neg h]; rfl
  | d :: y, acc, c => by
    rw [List.cons_append, spl1]
    by_cases hd : d = 32
    · have e : TL.spl [32] 0 acc (d :: y) = acc :: TL.spl [32] 0 [] y := by rw [spl1, if_pos hd]
      have hne := spl_ne [32] 0 [] y
      rw [if_pos hd, spl_snoc y [] c]
      simp only [e, List.dropLast_cons_of_ne_nil hne, List.getLast_cons hne]
      by_cases h : c = 32
      · rw [if_pos h, if_pos h]; rfl
      · rw [if_neg h, if_neg h]; rfl
    · have e : TL.spl [32] 0 acc (d :: y) = TL.spl [32] 0 (acc ++ [d]) y := by rw [spl1, if_neg hd]
      rw [if_neg hd, spl_snoc y (acc ++ [d]) c]
      simp only [e]
theorem ix_last (n : Nat) : ixN (n + 1) (-1) = some n := by
  unfold ixN
  simp
  omega
theorem set_last {α : Type} (A : List α) (u v : α) : (A ++ [u]).set A.length v = A ++ [v] := by
  rw [List.set_append_right _ _ (Nat.le_refl _), Nat.sub_self]; rfl
theorem mkS_app (a : List Nat) (c : Nat) : mkS a ++ sg c = mkS (a ++ [c]) := TL.ext_tl (by rw [TL.tl_append, tl_mkS, tl_mkS]; rfl)
theorem mkS_nil {w : List Nat} : mkS w = "" ↔ w = [] := ⟨fun q => by have := congrArg TL.tl q; rw [tl_mkS] at this; exact this, fun q => by rw [q]; rfl⟩
section
variable {P : Program} {w : World} {K : PySem.W.Frag} {mg : Str → Option Value} {base : Heap}
def spWords (K : PySem.W.Frag) : Sp := fun vs H Q _ => ∃ x : Str, vs = [.str x] ∧ x.length ≤ 600 ∧ ∀ r H', Same H H' → H r = none → H' r = some (.lst ((wordsOf (TL.tl x)).map wordV)) → Q (.ref r) H'
abbrev s__law_words : Stmt := top 26
abbrev N__law_words : List Str := ["_law_line", "_law_found", "_law_sign", "_law_word"]
abbrev P__law_words : List Str := ["_law_line"]
theorem sc__law_words : FnScope N__law_words P__law_words (defScope s__law_words) := ⟨rfl, rfl, rfl, by decide +kernel, rfl, by decide +kernel, by decide +kernel⟩

theorem ok_words {f : Addr} {fd : FuncData} (F : Fun K "_law_words" "_law_words" s__law_words f fd) : FnOk P w K mg base CX0 1 f fd P__law_words (spWords K) := by
  refine F.ok sc__law_words (fun vs H Q E h => ?_) (fun cdv A outer s H vs Q E hr h => ?_)
  · obtain ⟨x, rfl, _⟩ := h
    rfl
  · obtain ⟨x, rfl, hl, k⟩ := h
    have hu := hu_of hr
    refine ⟨_, (pss_cons (ps_set (i := 1) sc__law_words.nd rfl (Or.inl rfl) (pe_lst (pa_cons pe_str pa_nil)))
      (pss_cons (ps_for PassesOwn.never rfl (pi_str (pv 0)) (pg_name (i := 2) sc__law_words.nd rfl (Or.inl rfl)) (pss_one (ps_if (pt_cmpR op_eq (pv 2) pe_str (nomark _)) (pss_one (ps_expr (pe_bm PySem.F.plainAttrs_list PySem.F.slot_list_append PySem.F.type_list_append mt_append (pv 1) (pa_cons pe_str pa_nil)))) (pss_one (ps_asg (pe_op op_add_str (pe_ix ix_list (pv 1) (pe_un un_neg pe_int) (fun _ _ => rfl)) (pv 2)) (pg_sub (pv 1) (pe_un un_neg pe_int) set_list))))))
      (pss_one (ps_ret (pe_lc (own := [("_law_word", 3)]) (g := gName 3) (by rfl) sc__law_words.nd (pi_seq (K := K) rfl (pv 1)) (blkOk_by (own := [("_law_word", 3)]) (N := N__law_words) (sc := defScope s__law_words) (by decide +kernel)) (fun _ _ _ _ _ => pg_name (i := 3) sc__law_words.nd rfl (Or.inl rfl)) (fun _ _ _ _ _ => (pts_one (pt_cmpR op_ne (pv 3) pe_str (nomark _)))) (fun _ _ _ _ _ => (pv 3))))))), ?_⟩
    have hn : x.length = (TL.tl x).length := TL.len_tl x
    refine ⟨by show 1 ≤ sizeLine; decide, fun D hD => ?_⟩
    refine ⟨_, rfl, x, rfl, for_it walk_strS (fun i σ H1 => ∃ v2 v3 : Option V, σ = [some (.str x), some (.ref D), v2, v3] ∧ H1 D = some (.lst ((TL.spl [32] 0 [] ((TL.tl x).take i)).map wordV)) ∧ Same H H1)
      ⟨none, none, rfl, upd_same, same_new hD⟩ (fun _ _ _ _ _ => trivial) ?_ ?_⟩
    · rintro i v σ H2 H1 hi ⟨v2, v3, rfl, hD1, s1⟩ ⟨rfl, c, hc, rfl⟩
      obtain ⟨hlt, hce⟩ := List.getElem?_eq_some_iff.mp hc
      have hsn := spl_snoc ((TL.tl x).take i) [] c
      have e1 : (TL.tl x).take (i + 1) = (TL.tl x).take i ++ [c] := by rw [take_more hlt, hce]
      have hsl : (TL.spl [32] 0 [] ((TL.tl x).take i)).length ≤ 602 := by
        have h2 := PyProof.Rows.split_le (mkS ((TL.tl x).take i)) " "
        rw [split_sp, List.length_map, tl_mkS] at h2
        have h3 : (mkS ((TL.tl x).take i)).length = ((TL.tl x).take i).length := by rw [TL.len_tl, tl_mkS]
        rw [List.length_take] at h3
        omega
      have e32 : sg c = " " ↔ c = 32 := ⟨fun q => sg_inj (q : sg c = sg 32), fun q => by rw [q]; rfl⟩
      refine ⟨_, rfl, rfl, _, rfl, ite2 (fun c1 => ?_) (fun c1 => ?_)⟩
      · have c1 : c = 32 := e32.mp (by simpa using c1)
        rw [if_pos c1] at hsn
        refine ⟨_, rfl, Or.inl ⟨rfl, _, SqL.of hD1⟩, D, _, _, rfl, rfl, hD1, small1000 (by rw [List.length_map]; omega), _, _, rfl, ?_, s1.put hD⟩
        rw [upd_same, e1, hsn, List.map_append]; rfl
      · have c1 : c ≠ 32 := fun q => by rw [e32.mpr q] at c1; simp at c1
        rw [if_neg c1] at hsn
        have hne := spl_ne [32] 0 [] ((TL.tl x).take i)
        have hul : ((TL.spl [32] 0 [] ((TL.tl x).take i)).getLast hne).length ≤ 600 := by
          have := spl_len [32] 0 [] ((TL.tl x).take i) _ (List.getLast_mem hne)
          rw [List.length_nil, List.length_take] at this
          omega
        have eA := (List.dropLast_concat_getLast hne).symm
        generalize (TL.spl [32] 0 [] ((TL.tl x).take i)).getLast hne = u at hsn eA hul
        generalize (TL.spl [32] 0 [] ((TL.tl x).take i)).dropLast = A at hsn eA
        rw [eA, List.map_append] at hD1
        refine ⟨_, rfl, _, rfl, D, _, -1, wordV u, rfl, rfl, SqL.of hD1, atI_last _ _, _, rfl, _, _, rfl, rfl, ?_, _, rfl, _, rfl, D, _, -1, (A.map wordV).length, rfl, rfl, hD1, ?_, _, _, rfl, ?_, s1.put hD⟩
        · have : (mkS u).length = u.length := by rw [TL.len_tl, tl_mkS]
          show (mkS u).length + 1 ≤ sizeLine
          exact Nat.le_of_lt (small1000 (by omega))
        · show ixN (A.map wordV ++ [wordV u]).length (-1) = _
          rw [List.length_append, List.length_singleton]
          exact ix_last _
        · show L2.upd _ D (.lst ((A.map wordV ++ [wordV u]).set (A.map wordV).length (.str (mkS u ++ sg c)))) D = _
          rw [upd_same, set_last, e1, hsn, List.map_append, mkS_app]; rfl
    · rintro σ H1 ⟨v2, v3, rfl, hD1, s1⟩
      rw [hn, List.take_length] at hD1
      have hsl : (TL.spl [32] 0 [] (TL.tl x)).length ≤ 602 := by
        have h2 := PyProof.Rows.split_le x " "
        rw [split_sp, List.length_map] at h2
        omega
      refine ⟨_, rfl, D, _, rfl, Or.inl (SqL.of hD1), fun J hJ D2 hD2 => lc_it hJ (fun j H3 => H3 D2 = some (.lst ((((TL.spl [32] 0 [] (TL.tl x)).take j).filter fun w => decide (w ≠ [])).map wordV)) ∧ Same H1 H3) ⟨upd_same, same_new hD2⟩ (fun j H3 _ ⟨_, s3⟩ => GSq.same s3) ?_ ?_⟩
      · rintro j y H4 H3 hj ⟨hD3, s3⟩ ⟨rfl, hy⟩
        rw [List.length_map] at hj
        obtain rfl : wordV ((TL.spl [32] 0 [] (TL.tl x))[j]) = y := by
          rw [List.getElem?_map, List.getElem?_eq_getElem hj] at hy
          exact Option.some.inj hy
        have hlen : ((((TL.spl [32] 0 [] (TL.tl x)).take j).filter fun w => decide (w ≠ [])).map wordV).length < sizeLine := by
          rw [List.length_map]
          have h1 := List.length_filter_le (fun w => decide (w ≠ [])) ((TL.spl [32] 0 [] (TL.tl x)).take j)
          rw [List.length_take] at h1
          exact small1000 (by omega)
        refine ⟨rfl, ?_⟩
        refine ⟨_, rfl, rfl, _, rfl, ite2 (fun c => ?_) (fun c => ?_)⟩
        · have hz : (TL.spl [32] 0 [] (TL.tl x))[j] ≠ [] := fun q => by
            rw [q] at c
            simp [wordV] at c
            exact c rfl
          refine ⟨_, rfl, _, hD3, hlen, ?_, s3.put hD2⟩
          rw [upd_same, take_more hj, List.filter_append, List.filter_cons_of_pos (p := fun w => decide (w ≠ [])) (decide_eq_true hz), List.filter_nil, List.map_append]; rfl
        · have hz : (TL.spl [32] 0 [] (TL.tl x))[j] = [] := Classical.byContradiction fun q => by
            have q2 : mkS ((TL.spl [32] 0 [] (TL.tl x))[j]) ≠ "" := fun e => q (mkS_nil.mp e)
            simp [wordV] at c
            exact q2 c
          refine ⟨?_, s3⟩
          rw [take_more hj, List.filter_append, List.filter_cons_of_neg (by simp [hz]), List.filter_nil, List.append_nil]
          exact hD3
      · rintro H3 ⟨hD3, s3⟩
        rw [List.length_map, List.take_length] at hD3
        exact k D2 _ (s1.trans s3) (s1.free hD2) hD3
end
end Vf
set_option Elab.async false
set_option linter.all false
set_option maxRecDepth 100000
set_option maxHeartbeats 4000000
namespace Vf
open PySem L2 PyProof.Rows
/-- what the law makes of a word: a state below n, or none -/
def numX (n : Nat) (w : List Nat) : V := if okN n w = true then .int ((valN w : Nat) : Int) else .non
def chOk (x : List Nat) : Prop := ∀ c ∈ x, c < 1114112
def dgs : List Nat := TL.tl "0123456789"
theorem dgs_mem {c : Nat} : c ∈ dgs ↔ isDig c = true := by
  have h1 : ∀ d ∈ dgs, isDig d = true := by decide +kernel
  have h2 : ∀ d : Nat, d < 10 → 48 + d ∈ dgs := by decide +kernel
  refine ⟨h1 c, fun h => ?_⟩
  unfold isDig at h
  rw [Bool.and_eq_true, decide_eq_true_eq, decide_eq_true_eq] at h
  have := h2 (c - 48) (by omega)
  rwa [show 48 + (c - 48) = c by omega] at this
def odd (L : List Nat) (c : Nat) : Bool := !decide (c ∈ L)
theorem odd_nil {L x : List Nat} : x.filter (odd L) = [] ↔ ∀ c ∈ x, c ∈ L := by
  rw [List.filter_eq_nil_iff]
  refine forall_congr' fun c => imp_congr_right fun _ => ?_
  unfold odd
  simp
section
variable {P : Program} {w : World} {K : PySem.W.Frag} {mg : Str → Option Value} {base : Heap}
def spNumL : Sp := fun vs H Q _ => ∃ (x : Str) (n : Nat), vs = [.str x, .int n] ∧ x.length ≤ 600 ∧ chOk (TL.tl x) ∧ ∀ H', Same H H' → Q (numX n (TL.tl x)) H'
abbrev s__law_number : Stmt := top 25
abbrev N__law_number : List Str := ["_law_word", "_law_most", "_law_sign"]
abbrev P__law_number : List Str := ["_law_word", "_law_most"]
theorem sc__law_number : FnScope N__law_number P__law_number (defScope s__law_number) := ⟨rfl, rfl, rfl, by decide +kernel, rfl, by decide +kernel, by decide +kernel⟩

theorem ok_numL {f : Addr} {fd : FuncData} (F : Fun K "_law_number" "_law_number" s__law_number f fd) (Tl : mg "len" = none) (Ti : mg "int" = none) : FnOk P w K mg base CX0 1 f fd P__law_number spNumL := by
  refine F.ok sc__law_number (fun vs H Q E h => ?_) (fun cdv A outer s H vs Q E hr h => ?_)
  · obtain ⟨x, n, rfl, _⟩ := h
    rfl
  · obtain ⟨x, n, rfl, hl, hch, k⟩ := h
    have hu := hu_of hr
    refine ⟨_, (pss_cons (ps_if (PW.pt (pw_or (pt_cmpR op_eq (pv 0) pe_str (nomark _)) (pw_or (pt_cmpR op_gt (pe_callB call_len (by rfl) Tl PySem.boot_len (pa_cons (pv 0) pa_nil)) pe_int (nomark _)) (pw_or1 (pt_cmpR (op_neD hr.units) (pe_lc (own := [("_law_sign", 2)]) (g := gName 2) (by rfl) sc__law_number.nd (pi_str (pv 0)) (blkOk_by (own := [("_law_sign", 2)]) (N := N__law_number) (sc := defScope s__law_number) (by decide +kernel)) (fun _ _ _ _ _ => pg_name (i := 2) sc__law_number.nd rfl (Or.inl rfl)) (fun _ _ _ _ _ => (pts_one (pt_cmpR op_notIn_sign (pv 2) pe_str (by rfl)))) (fun _ _ _ _ _ => (pv 2))) (pe_lst pa_nil) (nomark _)))))) (pss_one (ps_ret pe_non)) pss_nil)
      (pss_cons (ps_if (PW.pt (pw_and (pt_cmpR op_eq (pe_ix ix_str (pv 0) pe_int (fun _ _ => rfl)) pe_str (nomark _)) (pw_and1 (pt_cmpR op_ne (pv 0) pe_str (nomark _))))) (pss_one (ps_ret pe_non)) pss_nil)
      (pss_one (ps_ret (pe_ifExp (PW.pt (pw_or (pt_cmpR op_isN (pv 1) pe_non (nomark _)) (pw_or1 (pt_cmpR op_lt (pe_callTy call_int_str (by rfl) Ti boot_int (pa_cons (pv 0) pa_nil)) (pv 1) (nomark _))))) (pe_callTy call_int_str (by rfl) Ti boot_int (pa_cons (pv 0) pa_nil)) pe_non))))), ?_⟩
    have hxs : x.length ≤ sizeLine := Nat.le_of_lt (small1000 (by omega))
    have hn : x.length = (TL.tl x).length := TL.len_tl x
    have none' : numW (TL.tl x) = none → ∀ H', Same H H' → Q .non H' := fun e H' s => by
      have := k H' s
      unfold numX okN at this
      rw [e] at this
      exact this
    by_cases h0 : TL.tl x = []
    · have ex : x = "" := TL.ext_tl h0
      refine ⟨_, rfl, rfl, _, rfl, ite2 (fun _ => ?_) (fun c => absurd (by rw [ex]; simp) c)⟩
      refine none' ?_ H (Same.refl H)
      unfold numW
      rw [if_neg fun q => q.2.1 h0]
    · have ex : x ≠ "" := fun q => h0 (by rw [q]; rfl)
      refine ⟨_, rfl, rfl, _, rfl, ite2 (fun c => absurd (by simpa using c) ex) (fun _ => ?_)⟩
      refine ⟨_, rfl, _, _, rfl, ⟨hxs, rfl⟩, _, _, rfl, rfl, _, rfl, ite2 (fun c => absurd c (by simp; omega)) (fun _ => ?_)⟩
      refine ⟨_, rfl, x, rfl, fun D hD => lc_it walk_strS (fun j H5 => H5 D = some (.lst (((((TL.tl x).take j).filter (odd dgs)).map sg).map V.str)) ∧ Same H H5) ⟨upd_same, same_new hD⟩ (fun _ _ _ _ => trivial) ?_ ?_⟩
      · rintro j y H2 H1 hj ⟨hD1, s1⟩ ⟨rfl, cc, hcc, rfl⟩
        obtain ⟨hjl, hje⟩ := List.getElem?_eq_some_iff.mp hcc
        have hlen : (((((TL.tl x).take j).filter (odd dgs)).map sg).map V.str).length < sizeLine := by
          rw [List.length_map, List.length_map]
          have h1 := List.length_filter_le (odd dgs) ((TL.tl x).take j)
          rw [List.length_take] at h1
          exact small1000 (by omega)
        refine ⟨rfl, ?_⟩
        refine ⟨_, rfl, cc, "0123456789", rfl, rfl, _, rfl, ?_⟩
        by_cases hd : cc ∈ dgs
        · have hd2 : cc ∈ (Str.ofString "0123456789").cps.toList := hd
          refine ite2 (fun c => absurd c (by rw [decide_eq_true hd2]; decide)) (fun _ => ⟨?_, s1⟩)
          rw [take_more hjl, hje, List.filter_append, List.filter_cons_of_neg (by unfold odd; simp [hd]), List.filter_nil, List.append_nil]
          exact hD1
        · have hd2 : ¬ cc ∈ (Str.ofString "0123456789").cps.toList := hd
          refine ite2 (fun _ => ?_) (fun c => absurd (by rw [decide_eq_false hd2]; rfl) c)
          refine ⟨_, rfl, _, hD1, hlen, ?_, s1.put hD⟩
          rw [upd_same, take_more hjl, hje, List.filter_append, List.filter_cons_of_pos (by unfold odd; simp [hd]), List.filter_nil, List.map_append, List.map_append]; rfl
      · rintro H1 ⟨hD1, s1⟩
        rw [TL.len_tl, List.take_length] at hD1
        refine ⟨by show 0 ≤ sizeLine; decide, fun E1 hE1 => ?_⟩
        have s2 := s1.trans (same_new (o := .lst []) hE1)
        refine ⟨.list ((((TL.tl x).filter (odd dgs)).map sg).map PyData.str), .list (([] : List Str).map PyData.str), .lst (SqL.of (same_new hE1 _ _ hD1)) (dpAll_strs _ _ _), .lst (xs := []) (SqL.of upd_same) .nil, shaped_sgs (fun c hc => hch c (List.mem_filter.mp hc).1), shaped_sgs (l := []) (fun c hc => nomatch hc), _, rfl, ?_⟩
        rw [eqv_strs]
        by_cases hf : (TL.tl x).filter (odd dgs) = []
        · refine ite2 (fun c => absurd c (by rw [hf]; simp)) (fun _ => ?_)
          have h1 : (TL.tl x).all isDig = true := List.all_eq_true.mpr fun c hc => dgs_mem.mp (odd_nil.mp hf c hc)
          obtain ⟨c0, r, hx⟩ : ∃ c0 r, TL.tl x = c0 :: r := by
            cases e : TL.tl x with
            | nil => exact absurd e h0
            | cons a b => exact ⟨a, b, rfl⟩
          have hc0 : (TL.tl x)[0]? = some c0 := by rw [hx]; rfl
          have e48 : ({ cps := #[c0] } : Str) = "0" ↔ c0 = 48 := ⟨fun q => sg_inj (q : sg c0 = sg 48), fun q => by rw [q]; rfl⟩
          have ex0 : x = "0" ↔ TL.tl x = [48] := ⟨fun q => by rw [q]; rfl, fun q => TL.ext_tl q⟩
          generalize L2.upd H1 E1 (.lst []) = H2 at s2 ⊢
          have it : intText? x = some ((NumText.digitsVal (TL.tl x) : Nat) : Int) := intText_digits (x := x) (dig_all h1) h0 (by omega)
          have fin : (c0 = 48 → TL.tl x = [48]) → ∀ Q' : VK, (∀ H', Same H H' → Q' (numX n (TL.tl x)) H') → tIf (tOr (tTest (tOp (fun x y H Q => y = V.non ∧ Q (V.bl (decide (x = V.non))) H) (tVar 1) (tC V.non))) (tTest (tOp (rI0 fun i j => V.bl (decide (i < j))) (tCB (fun xs H Q => ∃ a n, xs = [V.str a] ∧ intText? a = some n ∧ a.length ≤ 640 ∧ Q (V.int n) H) (tCons (tVar 0) tNil)) (tVar 1)))) (tCB (fun xs H Q => ∃ a n, xs = [V.str a] ∧ intText? a = some n ∧ a.length ≤ 640 ∧ Q (V.int n) H) (tCons (tVar 0) tNil)) (tC V.non) (L2.start N__law_number [V.str x, V.int n]) H2 Q' := fun q Q' k' => by
            have hw : numW (TL.tl x) = some (NumText.digitsVal (TL.tl x)) := by
              unfold numW
              rw [if_pos ⟨h1, h0, by omega, fun z => by rw [hx] at z; exact q (Option.some.inj z)⟩]
            have k2 := k' H2 s2
            unfold numX okN valN at k2
            rw [hw] at k2
            refine ⟨_, rfl, rfl, _, rfl, ite2 (fun c => absurd c (by simp)) (fun _ => ?_)⟩
            refine ⟨_, rfl, x, _, rfl, it, by omega, _, rfl, _, _, rfl, rfl, _, rfl, ite2 (fun c => ?_) (fun c => ?_)⟩
            · have c : NumText.digitsVal (TL.tl x) < n := by
                have := of_decide_eq_true c
                omega
              rw [if_pos (decide_eq_true c)] at k2
              exact ⟨_, rfl, x, _, rfl, it, by omega, k2⟩
            · have c : ¬ NumText.digitsVal (TL.tl x) < n := fun z => c (decide_eq_true (by omega))
              rw [if_neg (by simpa using c)] at k2
              exact k2
          refine ⟨_, rfl, x, 0, c0, rfl, rfl, hxs, at_of' (show (0 : Int) = ((0 : Nat) : Int) from rfl) hc0, rfl, _, rfl, ite2 (fun c => ?_) (fun c => ?_)⟩
          · have c : c0 = 48 := e48.mp (by simpa using c)
            refine ⟨_, rfl, rfl, _, rfl, ite2 (fun c2 => ?_) (fun c2 => ?_)⟩
            · have c2 : x ≠ "0" := by simpa using c2
              refine none' ?_ _ s2
              unfold numW
              rw [if_neg (fun q => c2 (ex0.mpr (q.2.2.2 (by rw [hx, c]; rfl))))]
            · have c2 : x = "0" := by simpa using c2
              exact fin (fun _ => ex0.mp c2) _ k
          · have c : c0 ≠ 48 := fun q => by rw [e48.mpr q] at c; simp at c
            exact fin (fun q => absurd q c) _ k
        · refine ite2 (fun _ => ?_) (fun c => absurd (by simp [hf]) c)
          refine none' ?_ _ s2
          unfold numW
          rw [if_neg fun q => hf (odd_nil.mpr fun c hc => dgs_mem.mpr (List.all_eq_true.mp q.1 c hc))]
def spNumN : Sp := fun vs H Q _ => ∃ x : Str, vs = [.str x, .non] ∧ x.length ≤ 600 ∧ chOk (TL.tl x) ∧ ∀ H', Same H H' → Q (numV (numW (TL.tl x))) H'
theorem ok_numN {f : Addr} {fd : FuncData} (F : Fun K "_law_number" "_law_number" s__law_number f fd) (Tl : mg "len" = none) (Ti : mg "int" = none) : FnOk P w K mg base CX0 1 f fd P__law_number spNumN := by
  refine F.ok sc__law_number (fun vs H Q E h => ?_) (fun cdv A outer s H vs Q E hr h => ?_)
  · obtain ⟨x, rfl, _⟩ := h
    rfl
  · obtain ⟨x, rfl, hl, hch, k⟩ := h
    have hu := hu_of hr
    refine ⟨_, (pss_cons (ps_if (PW.pt (pw_or (pt_cmpR op_eq (pv 0) pe_str (nomark _)) (pw_or (pt_cmpR op_gt (pe_callB call_len (by rfl) Tl PySem.boot_len (pa_cons (pv 0) pa_nil)) pe_int (nomark _)) (pw_or1 (pt_cmpR (op_neD hr.units) (pe_lc (own := [("_law_sign", 2)]) (g := gName 2) (by rfl) sc__law_number.nd (pi_str (pv 0)) (blkOk_by (own := [("_law_sign", 2)]) (N := N__law_number) (sc := defScope s__law_number) (by decide +kernel)) (fun _ _ _ _ _ => pg_name (i := 2) sc__law_number.nd rfl (Or.inl rfl)) (fun _ _ _ _ _ => (pts_one (pt_cmpR op_notIn_sign (pv 2) pe_str (by rfl)))) (fun _ _ _ _ _ => (pv 2))) (pe_lst pa_nil) (nomark _)))))) (pss_one (ps_ret pe_non)) pss_nil)
      (pss_cons (ps_if (PW.pt (pw_and (pt_cmpR op_eq (pe_ix ix_str (pv 0) pe_int (fun _ _ => rfl)) pe_str (nomark _)) (pw_and1 (pt_cmpR op_ne (pv 0) pe_str (nomark _))))) (pss_one (ps_ret pe_non)) pss_nil)
      (pss_one (ps_ret (pe_ifExp (PW.pt (pw_or (pt_cmpR op_isN (pv 1) pe_non (nomark _)) (pw_or1 (pt_cmpR op_lt (pe_callTy call_int_str (by rfl) Ti boot_int (pa_cons (pv 0) pa_nil)) (pv 1) (nomark _))))) (pe_callTy call_int_str (by rfl) Ti boot_int (pa_cons (pv 0) pa_nil)) pe_non))))), ?_⟩
    have hxs : x.length ≤ sizeLine := Nat.le_of_lt (small1000 (by omega))
    have hn : x.length = (TL.tl x).length := TL.len_tl x
    have none' : numW (TL.tl x) = none → ∀ H', Same H H' → Q .non H' := fun e H' s => by
      have := k H' s
      rw [e] at this
      exact this
    by_cases h0 : TL.tl x = []
    · have ex : x = "" := TL.ext_tl h0
      refine ⟨_, rfl, rfl, _, rfl, ite2 (fun _ => ?_) (fun c => absurd (by rw [ex]; simp) c)⟩
      refine none' ?_ H (Same.refl H)
      unfold numW
      rw [if_neg fun q => q.2.1 h0]
    · have ex : x ≠ "" := fun q => h0 (by rw [q]; rfl)
      refine ⟨_, rfl, rfl, _, rfl, ite2 (fun c => absurd (by simpa using c) ex) (fun _ => ?_)⟩
      refine ⟨_, rfl, _, _, rfl, ⟨hxs, rfl⟩, _, _, rfl, rfl, _, rfl, ite2 (fun c => absurd c (by simp; omega)) (fun _ => ?_)⟩
      refine ⟨_, rfl, x, rfl, fun D hD => lc_it walk_strS (fun j H5 => H5 D = some (.lst (((((TL.tl x).take j).filter (odd dgs)).map sg).map V.str)) ∧ Same H H5) ⟨upd_same, same_new hD⟩ (fun _ _ _ _ => trivial) ?_ ?_⟩
      · rintro j y H2 H1 hj ⟨hD1, s1⟩ ⟨rfl, cc, hcc, rfl⟩
        obtain ⟨hjl, hje⟩ := List.getElem?_eq_some_iff.mp hcc
        have hlen : (((((TL.tl x).take j).filter (odd dgs)).map sg).map V.str).length < sizeLine := by
          rw [List.length_map, List.length_map]
          have h1 := List.length_filter_le (odd dgs) ((TL.tl x).take j)
          rw [List.length_take] at h1
          exact small1000 (by omega)
        refine ⟨rfl, ?_⟩
        refine ⟨_, rfl, cc, "0123456789", rfl, rfl, _, rfl, ?_⟩
        by_cases hd : cc ∈ dgs
        · have hd2 : cc ∈ (Str.ofString "0123456789").cps.toList := hd
          refine ite2 (fun c => absurd c (by rw [decide_eq_true hd2]; decide)) (fun _ => ⟨?_, s1⟩)
          rw [take_more hjl, hje, List.filter_append, List.filter_cons_of_neg (by unfold odd; simp [hd]), List.filter_nil, List.append_nil]
          exact hD1
        · have hd2 : ¬ cc ∈ (Str.ofString "0123456789").cps.toList := hd
          refine ite2 (fun _ => ?_) (fun c => absurd (by rw [decide_eq_false hd2]; rfl) c)
          refine ⟨_, rfl, _, hD1, hlen, ?_, s1.put hD⟩
          rw [upd_same, take_more hjl, hje, List.filter_append, List.filter_cons_of_pos (by unfold odd; simp [hd]), List.filter_nil, List.map_append, List.map_append]; rfl
      · rintro H1 ⟨hD1, s1⟩
        rw [TL.len_tl, List.take_length] at hD1
        refine ⟨by show 0 ≤ sizeLine; decide, fun E1 hE1 => ?_⟩
        have s2 := s1.trans (same_new (o := .lst []) hE1)
        refine ⟨.list ((((TL.tl x).filter (odd dgs)).map sg).map PyData.str), .list (([] : List Str).map PyData.str), .lst (SqL.of (same_new hE1 _ _ hD1)) (dpAll_strs _ _ _), .lst (xs := []) (SqL.of upd_same) .nil, shaped_sgs (fun c hc => hch c (List.mem_filter.mp hc).1), shaped_sgs (l := []) (fun c hc => nomatch hc), _, rfl, ?_⟩
        rw [eqv_strs]
        by_cases hf : (TL.tl x).filter (odd dgs) = []
        · refine ite2 (fun c => absurd c (by rw [hf]; simp)) (fun _ => ?_)
          have h1 : (TL.tl x).all isDig = true := List.all_eq_true.mpr fun c hc => dgs_mem.mp (odd_nil.mp hf c hc)
          obtain ⟨c0, r, hx⟩ : ∃ c0 r, TL.tl x = c0 :: r := by
            cases e : TL.tl x with
            | nil => exact absurd e h0
            | cons a b => exact ⟨a, b, rfl⟩
          have hc0 : (TL.tl x)[0]? = some c0 := by rw [hx]; rfl
          have e48 : ({ cps := #[c0] } : Str) = "0" ↔ c0 = 48 := ⟨fun q => sg_inj (q : sg c0 = sg 48), fun q => by rw [q]; rfl⟩
          have ex0 : x = "0" ↔ TL.tl x = [48] := ⟨fun q => by rw [q]; rfl, fun q => TL.ext_tl q⟩
          generalize L2.upd H1 E1 (.lst []) = H2 at s2 ⊢
          have it : intText? x = some ((NumText.digitsVal (TL.tl x) : Nat) : Int) := intText_digits (x := x) (dig_all h1) h0 (by omega)
          have fin : (c0 = 48 → TL.tl x = [48]) → ∀ Q' : VK, (∀ H', Same H H' → Q' (numV (numW (TL.tl x))) H') → tIf (tOr (tTest (tOp (fun x y H Q => y = V.non ∧ Q (V.bl (decide (x = V.non))) H) (tVar 1) (tC V.non))) (tTest (tOp (rI0 fun i j => V.bl (decide (i < j))) (tCB (fun xs H Q => ∃ a n, xs = [V.str a] ∧ intText? a = some n ∧ a.length ≤ 640 ∧ Q (V.int n) H) (tCons (tVar 0) tNil)) (tVar 1)))) (tCB (fun xs H Q => ∃ a n, xs = [V.str a] ∧ intText? a = some n ∧ a.length ≤ 640 ∧ Q (V.int n) H) (tCons (tVar 0) tNil)) (tC V.non) (L2.start N__law_number [V.str x, V.non]) H2 Q' := fun q Q' k' => by
            have hw : numW (TL.tl x) = some (NumText.digitsVal (TL.tl x)) := by
              unfold numW
              rw [if_pos ⟨h1, h0, by omega, fun z => by rw [hx] at z; exact q (Option.some.inj z)⟩]
            have k2 := k' H2 s2
            rw [hw] at k2
            exact ⟨_, rfl, rfl, _, rfl, ite2 (fun _ => ⟨_, rfl, x, _, rfl, it, by omega, k2⟩) (fun c => absurd (by simp) c)⟩
          refine ⟨_, rfl, x, 0, c0, rfl, rfl, hxs, at_of' (show (0 : Int) = ((0 : Nat) : Int) from rfl) hc0, rfl, _, rfl, ite2 (fun c => ?_) (fun c => ?_)⟩
          · have c : c0 = 48 := e48.mp (by simpa using c)
            refine ⟨_, rfl, rfl, _, rfl, ite2 (fun c2 => ?_) (fun c2 => ?_)⟩
            · have c2 : x ≠ "0" := by simpa using c2
              refine none' ?_ _ s2
              unfold numW
              rw [if_neg (fun q => c2 (ex0.mpr (q.2.2.2 (by rw [hx, c]; rfl))))]
            · have c2 : x = "0" := by simpa using c2
              exact fin (fun _ => ex0.mp c2) _ k
          · have c : c0 ≠ 48 := fun q => by rw [e48.mpr q] at c; simp at c
            exact fin (fun q => absurd q c) _ k
        · refine ite2 (fun _ => ?_) (fun c => absurd (by simp [hf]) c)
          refine none' ?_ _ s2
          unfold numW
          rw [if_neg fun q => hf (odd_nil.mpr fun c hc => dgs_mem.mpr (List.all_eq_true.mp q.1 c hc))]
end
theorem fnok_or {P : Program} {w : World} {K : PySem.W.Frag} {mg : Str → Option Value} {base : Heap} {CX : CXT} {k : Nat} {f : Addr} {fd : FuncData} {ps : List Str} {sp1 sp2 : Sp} (F1 : FnOk P w K mg base CX k f fd ps sp1) (F2 : FnOk P w K mg base CX k f fd ps sp2) : FnOk P w K mg base CX k f fd ps (fun vs H Q E => sp1 vs H Q E ∨ sp2 vs H Q E) :=
  ⟨fun vs H Q E h => h.elim (F1.len vs H Q E) (F2.len vs H Q E), fun A outer s H args us vs Q E hr e0 hb r h => h.elim (F1.run A outer s H args us vs Q E hr e0 hb r) (F2.run A outer s H args us vs Q E hr e0 hb r)⟩
def spNumB : Sp := fun vs H Q E => spNumL vs H Q E ∨ spNumN vs H Q E
end Vf
set_option Elab.async false
set_option linter.all false
set_option maxRecDepth 100000
set_option maxHeartbeats 4000000
namespace Vf
open PySem L2 PyProof.Rows
def gd (l : List Nat) (i : Nat) : Nat := l.getD i 0
def fal (l : List Nat) (i : Nat) : Bool := !decide (gd l i < gd l (i + 1))
theorem fal_nil {l : List Nat} (h : l.length ≤ 3) : (List.range (l.length - 1)).filter (fal l) = [] ↔ l.Pairwise (· < ·) := by
  rcases l with _ | ⟨a, _ | ⟨b, _ | ⟨c, _ | ⟨d, r⟩⟩⟩⟩
  · simp
  · simp
  · simp [List.range_succ, fal, gd]
  · have e : List.range 2 = [0, 1] := by decide
    show (List.range 2).filter (fal [a, b, c]) = [] ↔ _
    rw [e]
    simp [fal, gd]
    omega
  · simp at h
theorem sg_lt {a b : Nat} : (sg a).cps.toList < (sg b).cps.toList ↔ a < b := by
  show [a] < [b] ↔ a < b
  rw [List.cons_lt_cons_iff]
  simp
section
variable {P : Program} {w : World} {K : PySem.W.Frag} {mg : Str → Option Value} {base : Heap}
def spAreL : Sp := fun vs H Q _ => ∃ x : Str, vs = [.str x] ∧ x.length ≤ 600 ∧ chOk (TL.tl x) ∧ ∀ H', Same H H' → Q (.bl (okZ (TL.tl x))) H'
abbrev s__law_are_values : Stmt := top 27
abbrev N__law_are_values : List Str := ["_law_word", "_law_sign", "_law_k"]
abbrev P__law_are_values : List Str := ["_law_word"]
theorem sc__law_are_values : FnScope N__law_are_values P__law_are_values (defScope s__law_are_values) := ⟨rfl, rfl, rfl, by decide +kernel, rfl, by decide +kernel, by decide +kernel⟩

theorem ok_areL {f : Addr} {fd : FuncData} (F : Fun K "_law_are_values" "_law_are_values" s__law_are_values f fd) (T : TxtA K mg) : FnOk P w K mg base CX0 1 f fd P__law_are_values spAreL := by
  refine F.ok sc__law_are_values (fun vs H Q E h => ?_) (fun cdv A outer s H vs Q E hr h => ?_)
  · obtain ⟨x, rfl, _⟩ := h
    rfl
  · obtain ⟨x, rfl, hl, hch, k⟩ := h
    have hu := hu_of hr
    refine ⟨_, (pss_cons (ps_if (pt_cmpR (op_neD hr.units) (pe_lc (own := [("_law_sign", 1)]) (g := gName 1) (by rfl) sc__law_are_values.nd (pi_str (pv 0)) (blkOk_by (own := [("_law_sign", 1)]) (N := N__law_are_values) (sc := defScope s__law_are_values) (by decide +kernel)) (fun _ _ _ _ _ => pg_name (i := 1) sc__law_are_values.nd rfl (Or.inl rfl)) (fun _ _ _ _ _ => (pts_one (pt_cmpR op_notIn_sign (pv 1) pe_str (by rfl)))) (fun _ _ _ _ _ => (pv 1))) (pe_lst pa_nil) (nomark _)) (pss_one (ps_ret pe_bl)) pss_nil)
      (pss_one (ps_ret (L2.pe_and (pe_chain op_le op_le pe_int (pe_callB call_len (by rfl) T.len PySem.boot_len (pa_cons (pv 0) pa_nil)) pe_int) (pe_one (pe_cmpR (op_eqD hr.units) (pe_lc (own := [("_law_k", 2)]) (g := gName 2) (by rfl) sc__law_are_values.nd (pi_range2 (by rfl) T.range (pa_cons pe_int (pa_cons (pe_callB call_len (by rfl) T.len PySem.boot_len (pa_cons (pv 0) pa_nil)) pa_nil))) (blkOk_by (own := [("_law_k", 2)]) (N := N__law_are_values) (sc := defScope s__law_are_values) (by decide +kernel)) (fun _ _ _ _ _ => pg_name (i := 2) sc__law_are_values.nd rfl (Or.inl rfl)) (fun _ _ _ _ _ => (pts_one (pt_cmpR op_ge_str (pe_ix ix_str (pv 0) (pe_op op_sub (pv 2) pe_int) (fun _ _ => rfl)) (pe_ix ix_str (pv 0) (pv 2) (fun _ _ => rfl)) (nomark _)))) (fun _ _ _ _ _ => (pv 2))) (pe_lst pa_nil) (nomark _))))))), ?_⟩
    have hxs : x.length ≤ sizeLine := Nat.le_of_lt (small1000 (by omega))
    have hn : x.length = (TL.tl x).length := TL.len_tl x
    have bad : ¬ (∀ c ∈ TL.tl x, c ∈ alpha) → ∀ H', Same H H' → Q (.bl false) H' := fun h H' s => by
      have := k H' s
      unfold okZ at this
      have e : ((TL.tl x).all fun c => decide (97 ≤ c) && decide (c ≤ 122)) = false := by
        rw [← Bool.not_eq_true, List.all_eq_true]
        intro q
        refine h fun c hc => alpha_mem.mpr ?_
        have := q c hc
        rwa [Bool.and_eq_true, decide_eq_true_eq, decide_eq_true_eq] at this
      rw [e, Bool.false_and, Bool.and_false] at this
      exact this
    refine ⟨_, rfl, x, rfl, fun D hD => lc_it walk_strS (fun j H5 => H5 D = some (.lst (((((TL.tl x).take j).filter (odd alpha)).map sg).map V.str)) ∧ Same H H5) ⟨upd_same, same_new hD⟩ (fun _ _ _ _ => trivial) ?_ ?_⟩
    · rintro j y H2 H1 hj ⟨hD1, s1⟩ ⟨rfl, cc, hcc, rfl⟩
      obtain ⟨hjl, hje⟩ := List.getElem?_eq_some_iff.mp hcc
      have hlen : (((((TL.tl x).take j).filter (odd alpha)).map sg).map V.str).length < sizeLine := by
        rw [List.length_map, List.length_map]
        have h1 := List.length_filter_le (odd alpha) ((TL.tl x).take j)
        rw [List.length_take] at h1
        exact small1000 (by omega)
      refine ⟨rfl, ?_⟩
      refine ⟨_, rfl, cc, "abcdefghijklmnopqrstuvwxyz", rfl, rfl, _, rfl, ?_⟩
      by_cases hd : cc ∈ alpha
      · have hd2 : cc ∈ (Str.ofString "abcdefghijklmnopqrstuvwxyz").cps.toList := hd
        refine ite2 (fun c => absurd c (by rw [decide_eq_true hd2]; decide)) (fun _ => ⟨?_, s1⟩)
        rw [take_more hjl, hje, List.filter_append, List.filter_cons_of_neg (by unfold odd; simp [hd]), List.filter_nil, List.append_nil]
        exact hD1
      · have hd2 : ¬ cc ∈ (Str.ofString "abcdefghijklmnopqrstuvwxyz").cps.toList := hd
        refine ite2 (fun _ => ?_) (fun c => absurd (by rw [decide_eq_false hd2]; rfl) c)
        refine ⟨_, rfl, _, hD1, hlen, ?_, s1.put hD⟩
        rw [upd_same, take_more hjl, hje, List.filter_append, List.filter_cons_of_pos (by unfold odd; simp [hd]), List.filter_nil, List.map_append, List.map_append]; rfl
    · rintro H1 ⟨hD1, s1⟩
      rw [TL.len_tl, List.take_length] at hD1
      refine ⟨by show 0 ≤ sizeLine; decide, fun E1 hE1 => ?_⟩
      have s2 := s1.trans (same_new (o := .lst []) hE1)
      refine ⟨.list ((((TL.tl x).filter (odd alpha)).map sg).map PyData.str), .list (([] : List Str).map PyData.str), .lst (SqL.of (same_new hE1 _ _ hD1)) (dpAll_strs _ _ _), .lst (xs := []) (SqL.of upd_same) .nil, shaped_sgs (fun c hc => hch c (List.mem_filter.mp hc).1), shaped_sgs (l := []) (fun c hc => nomatch hc), _, rfl, ?_⟩
      rw [eqv_strs]
      generalize L2.upd H1 E1 (.lst []) = H2 at s2 ⊢
      by_cases hf : (TL.tl x).filter (odd alpha) = []
      · refine ite2 (fun c => absurd c (by rw [hf]; simp)) (fun _ => ?_)
        have hin := odd_nil.mp hf
        have hall : ((TL.tl x).all fun c => decide (97 ≤ c) && decide (c ≤ 122)) = true := by
          rw [List.all_eq_true]
          intro c hc
          rw [Bool.and_eq_true, decide_eq_true_eq, decide_eq_true_eq]
          exact alpha_mem.mp (hin c hc)
        have key := k
        unfold okZ at key
        rw [hall, Bool.true_and] at key
        refine ⟨_, rfl, _, _, rfl, ⟨hxs, rfl⟩, _, _, rfl, rfl, _, rfl, ?_⟩
        by_cases l1 : 1 ≤ x.length
        · rw [if_pos (decide_eq_true (by omega))]
          refine ⟨_, _, rfl, rfl, _, rfl, ?_⟩
          by_cases l3 : x.length ≤ 3
          · refine ite2 (fun _ => ?_) (fun c => absurd (decide_eq_true (by omega)) c)
            have hpre : (decide (1 ≤ (TL.tl x).length) && decide ((TL.tl x).length ≤ 3)) = true := by rw [Bool.and_eq_true, decide_eq_true_eq, decide_eq_true_eq]; omega
            rw [hpre, Bool.true_and] at key
            refine ⟨_, rfl, _, _, rfl, ⟨hxs, rfl⟩, 1, (x.length : Int), rfl, by omega, fun D3 hD3 => lc_range (lo := 1) (n := ((x.length : Int) - 1).toNat) (fun j H3 => H3 D3 = some (.lst ((((List.range j).filter (fal (TL.tl x))).map fun (i : Nat) => (1 + (i : Int))).map V.int)) ∧ Same H2 H3) ⟨upd_same, same_new hD3⟩ ?_ ?_⟩
            · rintro j H3 hj ⟨hD3', s3⟩
              have hj1 : j + 1 < (TL.tl x).length := by omega
              have g1 : gd (TL.tl x) j = (TL.tl x)[j] := by unfold gd; rw [List.getD_eq_getElem?_getD, List.getElem?_eq_getElem (by omega)]; rfl
              have g2 : gd (TL.tl x) (j + 1) = (TL.tl x)[j + 1] := by unfold gd; rw [List.getD_eq_getElem?_getD, List.getElem?_eq_getElem hj1]; rfl
              have a1 : atI x.cps.toList (1 + (j : Int)) = some (TL.tl x)[j + 1] := by
                rw [show (1 + (j : Int)) = ((j + 1 : Nat) : Int) by omega]
                exact atI_nat (List.getElem?_eq_getElem hj1)
              have a2 : atI x.cps.toList (1 + (j : Int) - 1) = some (TL.tl x)[j] := by
                rw [show (1 + (j : Int) - 1) = ((j : Nat) : Int) by omega]
                exact atI_nat (List.getElem?_eq_getElem (show j < (TL.tl x).length by omega))
              refine ⟨rfl, _, rfl, _, rfl, _, _, rfl, rfl, x, _, _, rfl, rfl, hxs, a2, _, rfl, _, rfl, x, _, _, rfl, rfl, hxs, a1, _, _, rfl, rfl, _, rfl, ?_⟩
              by_cases hc : (TL.tl x)[j] < (TL.tl x)[j + 1]
              · refine ite2 (fun c1 => absurd c1 ?_) (fun _ => ⟨?_, s3⟩)
                · show ¬ (!decide ((sg (TL.tl x)[j]).cps.toList < (sg (TL.tl x)[j + 1]).cps.toList)) = true
                  rw [decide_eq_true (sg_lt.mpr hc)]; decide
                · rw [List.range_succ, List.filter_append, List.filter_cons_of_neg (by unfold fal; rw [g1, g2, decide_eq_true hc]; decide), List.filter_nil, List.append_nil]
                  exact hD3'
              · refine ite2 (fun _ => ?_) (fun c1 => absurd ?_ c1)
                · refine ⟨_, rfl, _, hD3', ?_, ?_, s3.put hD3⟩
                  · rw [List.length_map, List.length_map]
                    refine Nat.lt_of_le_of_lt (List.length_filter_le _ _) ?_
                    rw [List.length_range]; exact small1000 (by omega)
                  · rw [upd_same, List.range_succ, List.filter_append, List.filter_cons_of_pos (by unfold fal; rw [g1, g2, decide_eq_false hc]; rfl), List.filter_nil, List.map_append, List.map_append]; rfl
                · show (!decide ((sg (TL.tl x)[j]).cps.toList < (sg (TL.tl x)[j + 1]).cps.toList)) = true
                  rw [decide_eq_false fun q => hc (sg_lt.mp q)]; rfl
            · rintro H3 ⟨hD3', s3⟩
              rw [show ((x.length : Int) - 1).toNat = (TL.tl x).length - 1 by omega] at hD3'
              refine ⟨by show 0 ≤ sizeLine; decide, fun E2 hE2 => ?_⟩
              refine ⟨intsD (((List.range ((TL.tl x).length - 1)).filter (fal (TL.tl x))).map fun (i : Nat) => (1 + (i : Int))), intsD [], .lst (SqL.of (same_new hE2 _ _ hD3')) (dpAll_ints _ _ _), .lst (xs := []) (SqL.of upd_same) .nil, shaped_intsD _, shaped_intsD _, ?_⟩
              rw [eqv_intsD]
              have e : decide ((((List.range ((TL.tl x).length - 1)).filter (fal (TL.tl x))).map fun (i : Nat) => (1 + (i : Int))) = []) = decide ((TL.tl x).Pairwise (· < ·)) := by
                rw [Bool.eq_iff_iff, decide_eq_true_eq, decide_eq_true_eq, List.map_eq_nil_iff]
                exact fal_nil (by omega)
              rw [e]
              exact key _ ((s2.trans s3).trans (same_new hE2))
          · refine ite2 (fun c => absurd (of_decide_eq_true c) (by omega)) (fun _ => ?_)
            have := key H2 s2
            have hpre : (decide (1 ≤ (TL.tl x).length) && decide ((TL.tl x).length ≤ 3)) = false := by rw [Bool.and_eq_false_iff]; right; rw [decide_eq_false_iff_not]; omega
            rw [hpre, Bool.false_and] at this
            exact this
        · rw [if_neg (by rw [decide_eq_true_eq]; omega)]
          refine ⟨_, rfl, ite2 (fun c => absurd c (by decide)) (fun _ => ?_)⟩
          have := key H2 s2
          have hpre : (decide (1 ≤ (TL.tl x).length) && decide ((TL.tl x).length ≤ 3)) = false := by rw [Bool.and_eq_false_iff]; left; rw [decide_eq_false_iff_not]; omega
          rw [hpre, Bool.false_and] at this
          exact this
      · refine ite2 (fun _ => ?_) (fun c => absurd (by simp [hf]) c)
        exact bad (fun q => hf (odd_nil.mpr q)) _ s2
end
end Vf
set_option Elab.async false
set_option linter.all false
set_option maxRecDepth 100000
set_option maxHeartbeats 4000000
/-! a word many times -/
namespace Vf
open PySem L2 PyProof.Rows
def rMulS : R2 := fun x y H Q => ∃ z n, x = .str z ∧ y = .int n ∧ 0 ≤ n ∧ n ≤ 1000 ∧ z.length ≤ 1000 ∧ ∀ r : Str, TL.tl r = (List.replicate n.toNat (TL.tl z)).flatten → Q (.str r) H
theorem foldl_cps (l : List (Array Nat)) (a : Array Nat) : (l.foldl (· ++ ·) a).toList = a.toList ++ (l.map Array.toList).flatten := by
  induction l generalizing a with
  | nil => simp
  | cons b r ih => rw [List.foldl_cons, ih]; simp
theorem op_mul_str {X : Cx} : OpR X (binaryOp .Mult) rMulS := by
  intro pins s σ H x y v u Q I rx ry h
  obtain ⟨z, n, rfl, rfl, h0, h1, hz, q⟩ := h
  obtain ⟨t, rfl⟩ := rx
  obtain ⟨t', rfl⟩ := ry
  have hp : z.length * n.toNat ≤ 1000 * 1000 := Nat.mul_le_mul hz (by omega)
  refine PySem.P.mul_str ?_ (fun hn _ => ?_) (fun hn _ => ?_) ?_
  · rw [decide_eq_false (by omega), decide_eq_false (by omega)]; rfl
  · have : (1000 : Int) ≤ (2 ^ 63 - 1) / n := by
      rw [Int.le_ediv_iff_mul_le (by omega)]
      omega
    omega
  · exact decide_eq_false (Nat.not_lt.mpr (Nat.le_trans hp (by rw [sizeLine_eq]; decide)))
  · by_cases c : n < 1
    · rw [if_pos c]
      have e : n = 0 := by omega
      subst e
      exact ⟨by decide, .str Str.empty, H, I.tok _, ⟨_, rfl⟩, q _ rfl⟩
    · rw [if_neg c]
      by_cases c2 : (n == 1 || z.length == 0) = true
      · rw [if_pos c2]
        refine ⟨.str z, H, I, ⟨_, rfl⟩, q z ?_⟩
        rcases Bool.or_eq_true_iff.mp c2 with e | e
        · have e := eq_of_beq e
          subst e
          simp
        · have e := eq_of_beq e
          rw [TL.len_tl] at e
          have e2 : TL.tl z = [] := List.length_eq_zero_iff.mp e
          rw [e2]
          simp
      · rw [if_neg c2]
        have et : TL.tl (⟨(List.replicate n.toNat z.cps).foldl (· ++ ·) #[]⟩ : Str) = (List.replicate n.toNat (TL.tl z)).flatten := by
          show ((List.replicate n.toNat z.cps).foldl (· ++ ·) #[]).toList = _
          rw [foldl_cps, List.map_replicate]
          rfl
        refine ⟨?_, .str _, H, I.tok _, ⟨_, rfl⟩, q _ et⟩
        rw [TL.len_tl, et, List.length_flatten, List.map_replicate, List.sum_replicate_nat]
        refine Nat.le_trans ?_ (by rw [sizeLine_eq]; decide : 1000 * 1000 ≤ sizeLine)
        rw [← TL.len_tl, Nat.mul_comm]
        exact hp
/-! a word n times from a state -/
def wn (rs : List Row) (z y : List Nat) : Nat → Int → Int × Int
  | 0, s => (s, 0)
  | n + 1, s => ((walkR rs z (wn rs z y n s).1 y).1, (wn rs z y n s).2 + (walkR rs z (wn rs z y n s).1 y).2)
section
variable {rs : List Row} {z : List Nat}
theorem wn_add (y : List Nat) (a : Nat) (s : Int) : ∀ b, wn rs z y (a + b) s = ((wn rs z y b (wn rs z y a s).1).1, (wn rs z y a s).2 + (wn rs z y b (wn rs z y a s).1).2)
  | 0 => by simp [wn]
  | b + 1 => by
    have ih := wn_add y a s b
    show ((walkR rs z (wn rs z y (a + b) s).1 y).1, (wn rs z y (a + b) s).2 + (walkR rs z (wn rs z y (a + b) s).1 y).2) = _
    rw [ih]
    simp only [wn, Int.add_assoc]
theorem fold_walk (y : List Nat) : ∀ (s b : Int), y.foldl (stepR rs z) (s, b) = ((walkR rs z s y).1, b + (walkR rs z s y).2) := by
  induction y with
  | nil => intro s b; simp [walkR]
  | cons c r ih =>
    intro s b
    have e1 : stepR rs z (s, b) c = ((stepR rs z (s, 0) c).1, b + (stepR rs z (s, 0) c).2) := by simp [stepR]
    have e2 : walkR rs z s (c :: r) = ((walkR rs z (stepR rs z (s, 0) c).1 r).1, (stepR rs z (s, 0) c).2 + (walkR rs z (stepR rs z (s, 0) c).1 r).2) := by
      show r.foldl (stepR rs z) (stepR rs z (s, 0) c) = _
      have := ih (stepR rs z (s, 0) c).1 (stepR rs z (s, 0) c).2
      exact this
    rw [List.foldl_cons, e1, ih, e2]
    simp [Int.add_assoc]
theorem walk_append (x y : List Nat) (s : Int) : walkR rs z s (x ++ y) = ((walkR rs z (walkR rs z s x).1 y).1, (walkR rs z s x).2 + (walkR rs z (walkR rs z s x).1 y).2) := by
  show (x ++ y).foldl (stepR rs z) (s, 0) = _
  rw [List.foldl_append]
  exact fold_walk y (walkR rs z s x).1 (walkR rs z s x).2
theorem wn_one (y : List Nat) (s : Int) : wn rs z y 1 s = walkR rs z s y := by simp [wn]
theorem wn_flat (y : List Nat) (s : Int) : ∀ n, walkR rs z s (List.replicate n y).flatten = wn rs z y n s
  | 0 => rfl
  | n + 1 => by
    rw [List.replicate_succ', List.flatten_append, List.flatten_singleton, walk_append, wn_flat y s n]
    rfl
theorem wn_twice (y : List Nat) (s : Int) : ∀ n, wn rs z (y ++ y) n s = wn rs z y (n + n) s
  | 0 => rfl
  | n + 1 => by
    have e : n + 1 + (n + 1) = (n + n) + 1 + 1 := by omega
    rw [e]
    simp only [wn, wn_twice y s n, walk_append, Int.add_assoc]
theorem wn_rot (a b : List Nat) (s : Int) : ∀ n, wn rs z (a ++ b) (n + 1) s = ((walkR rs z (wn rs z (b ++ a) n (walkR rs z s a).1).1 b).1, (walkR rs z s a).2 + ((wn rs z (b ++ a) n (walkR rs z s a).1).2 + (walkR rs z (wn rs z (b ++ a) n (walkR rs z s a).1).1 b).2))
  | 0 => by simp [wn, walk_append]
  | n + 1 => by
    have ih := wn_rot a b s n
    show ((walkR rs z (wn rs z (a ++ b) (n + 1) s).1 (a ++ b)).1, (wn rs z (a ++ b) (n + 1) s).2 + (walkR rs z (wn rs z (a ++ b) (n + 1) s).1 (a ++ b)).2) = _
    rw [ih]
    simp only [wn, walk_append, Int.add_assoc]
theorem wn_ok {m : Nat} {y : List Nat} {s : Int} (g : GoodS m rs) (hz : z.length = m) (h0 : 0 ≤ s) (h1 : s < rs.length) (hy : ∀ c ∈ y, c ∈ z) : ∀ n, 0 ≤ (wn rs z y n s).1 ∧ (wn rs z y n s).1 < rs.length
  | 0 => ⟨h0, h1⟩
  | n + 1 => by
    have ih := wn_ok (y := y) g hz h0 h1 hy n
    have := walkR_ok (y := y) g hz ih.1 ih.2 hy y.length (Nat.le_refl _)
    rw [List.take_length] at this
    exact this
theorem cyc_mul {y : List Nat} {T c : Int} {p : Nat} (h : wn rs z y p T = (T, c)) : ∀ q : Nat, wn rs z y (q * p) T = (T, q * c)
  | 0 => by simp [wn]
  | q + 1 => by
    rw [Nat.succ_mul, wn_add, cyc_mul h q]
    simp only [h]
    congr 1
    rw [Int.natCast_add, Int.add_mul, Int.natCast_one, Int.one_mul]
theorem cyc_any {y : List Nat} {T c : Int} {p : Nat} (h : wn rs z y p T = (T, c)) (r : Nat) : wn rs z y p (wn rs z y r T).1 = ((wn rs z y r T).1, c) := by
  have h1 := wn_add (rs := rs) (z := z) y r T p
  have h2 := wn_add (rs := rs) (z := z) y p T r
  rw [Nat.add_comm p r, h1] at h2
  simp only [h] at h2
  have e1 := congrArg Prod.fst h2
  have e2 := congrArg Prod.snd h2
  simp only at e1 e2
  refine Prod.ext e1 ?_
  show (wn rs z y p (wn rs z y r T).1).2 = c
  omega
/-- what the last lines of a walk in rounds tell -/
theorem loop_end {y : List Nat} {s : Int} {f k q r : Nat} (hf : f < k) (h : (wn rs z y f s).1 = (wn rs z y k s).1) :
    wn rs z y (k + q * (k - f) + r) s = ((wn rs z y (f + r) s).1, (wn rs z y k s).2 + q * ((wn rs z y k s).2 - (wn rs z y f s).2) + (wn rs z y (f + r) s).2 - (wn rs z y f s).2) := by
  have hk : f + (k - f) = k := by omega
  have h1 := wn_add (rs := rs) (z := z) y f s (k - f)
  rw [hk] at h1
  have hc : wn rs z y (k - f) (wn rs z y f s).1 = ((wn rs z y f s).1, (wn rs z y k s).2 - (wn rs z y f s).2) := by
    have e1 := congrArg Prod.fst h1
    have e2 := congrArg Prod.snd h1
    simp only at e1 e2
    refine Prod.ext (by rw [← e1, h]) ?_
    show (wn rs z y (k - f) (wn rs z y f s).1).2 = _
    omega
  have h2 := cyc_mul hc q
  have h3 := wn_add (rs := rs) (z := z) y f s r
  rw [Nat.add_assoc, wn_add, ← h, wn_add, h2, h3]
  refine Prod.ext rfl ?_
  show (wn rs z y k s).2 + (q * ((wn rs z y k s).2 - (wn rs z y f s).2) + (wn rs z y r (wn rs z y f s).1).2) = _
  simp only
  omega
/-- blocks, one behind the other -/
def eff (rs : List Row) (z : List Nat) (bs : List (List Nat × Nat)) (s : Int) : Int × Int := bs.foldl (fun a b => ((wn rs z b.1 b.2 a.1).1, a.2 + (wn rs z b.1 b.2 a.1).2)) (s, 0)
theorem eff_fold (bs : List (List Nat × Nat)) : ∀ (s b : Int), bs.foldl (fun a b => ((wn rs z b.1 b.2 a.1).1, a.2 + (wn rs z b.1 b.2 a.1).2)) (s, b) = ((eff rs z bs s).1, b + (eff rs z bs s).2) := by
  induction bs with
  | nil => intro s b; simp [eff]
  | cons x r ih =>
    intro s b
    have e2 : eff rs z (x :: r) s = ((eff rs z r (wn rs z x.1 x.2 s).1).1, (wn rs z x.1 x.2 s).2 + (eff rs z r (wn rs z x.1 x.2 s).1).2) := by
      show r.foldl _ ((wn rs z x.1 x.2 s).1, 0 + (wn rs z x.1 x.2 s).2) = _
      rw [Int.zero_add]
      exact ih _ _
    rw [List.foldl_cons, e2]
    have := ih (wn rs z x.1 x.2 s).1 (b + (wn rs z x.1 x.2 s).2)
    rw [this]
    simp [Int.add_assoc]
theorem eff_cons (x : List Nat × Nat) (r : List (List Nat × Nat)) (s : Int) : eff rs z (x :: r) s = ((eff rs z r (wn rs z x.1 x.2 s).1).1, (wn rs z x.1 x.2 s).2 + (eff rs z r (wn rs z x.1 x.2 s).1).2) := by
  show r.foldl _ ((wn rs z x.1 x.2 s).1, 0 + (wn rs z x.1 x.2 s).2) = _
  rw [Int.zero_add]
  exact eff_fold r _ _
theorem eff_append (x y : List (List Nat × Nat)) (s : Int) : eff rs z (x ++ y) s = ((eff rs z y (eff rs z x s).1).1, (eff rs z x s).2 + (eff rs z y (eff rs z x s).1).2) := by
  show (x ++ y).foldl _ (s, 0) = _
  rw [List.foldl_append]
  exact eff_fold y (eff rs z x s).1 (eff rs z x s).2
theorem eff_one (y : List Nat) (n : Nat) (s : Int) : eff rs z [(y, n)] s = wn rs z y n s := by
  rw [eff_cons]
  simp [eff]
end
end Vf
set_option Elab.async false
set_option linter.all false
set_option maxRecDepth 100000
set_option maxHeartbeats 4000000
namespace Vf
open PySem L2 PyProof.Rows
/-- the words that are whole behind y, and the one that is still open -/
def whole (y : List Nat) : List (List Nat) := (TL.spl [32] 0 [] y).dropLast.filter fun w => decide (w ≠ [])
def opn (y : List Nat) : List Nat := (TL.spl [32] 0 [] y).getLast (spl_ne [32] 0 [] y)
theorem words_open (y : List Nat) : wordsOf y = whole y ++ [opn y].filter fun w => decide (w ≠ []) := by
  unfold wordsOf whole opn
  rw [← List.filter_append, List.dropLast_concat_getLast]
theorem open_sp (y : List Nat) : whole (y ++ [32]) = wordsOf y ∧ opn (y ++ [32]) = [] := by
  have h := spl_snoc y [] 32
  rw [if_pos rfl] at h
  unfold whole opn wordsOf
  simp only [h, List.dropLast_concat, List.getLast_concat, and_self]
theorem open_ch (y : List Nat) {c : Nat} (hc : c ≠ 32) : whole (y ++ [c]) = whole y ∧ opn (y ++ [c]) = opn y ++ [c] := by
  have h := spl_snoc y [] c
  rw [if_neg hc] at h
  unfold whole opn
  simp only [h, List.dropLast_concat, List.getLast_concat, and_self]
def LikeW (a b : List Nat) : Prop := whole a = whole b ∧ opn a = opn b
theorem LikeW.words {a b : List Nat} (h : LikeW a b) : wordsOf a = wordsOf b := by rw [words_open, words_open, h.1, h.2]
theorem LikeW.ch {a b : List Nat} (h : LikeW a b) {c : Nat} (hc : c ≠ 32) : LikeW (a ++ [c]) (b ++ [c]) := by
  obtain ⟨a1, a2⟩ := open_ch a hc
  obtain ⟨b1, b2⟩ := open_ch b hc
  exact ⟨by rw [a1, b1, h.1], by rw [a2, b2, h.2]⟩
theorem LikeW.sp {a b : List Nat} (h : LikeW a b) : LikeW (a ++ [32]) (b ++ [32]) := by
  obtain ⟨a1, a2⟩ := open_sp a
  obtain ⟨b1, b2⟩ := open_sp b
  exact ⟨by rw [a1, b1, h.words], by rw [a2, b2]⟩
/-- one more space behind a space -/
theorem LikeW.sp2 (a : List Nat) : LikeW (a ++ [32] ++ [32]) (a ++ [32]) := by
  obtain ⟨a1, a2⟩ := open_sp a
  obtain ⟨b1, b2⟩ := open_sp (a ++ [32])
  refine ⟨?_, by rw [b2, a2]⟩
  rw [b1, words_open, a1, a2]
  simp
theorem LikeW.sps (a : List Nat) : ∀ k : Nat, LikeW (a ++ [32] ++ List.replicate k 32) (a ++ [32])
  | 0 => by rw [List.replicate_zero, List.append_nil]; exact ⟨rfl, rfl⟩
  | k + 1 => by
    have ih := LikeW.sps a k
    have h1 := ih.sp
    have h2 := LikeW.sp2 a
    rw [List.replicate_succ', ← List.append_assoc]
    exact ⟨h1.1.trans h2.1, h1.2.trans h2.2⟩
theorem words_sps (a : List Nat) : ∀ k : Nat, wordsOf (a ++ List.replicate k 32) = wordsOf a
  | 0 => by rw [List.replicate_zero, List.append_nil]
  | k + 1 => by
    rw [List.replicate_succ', ← List.append_assoc, words_open, (open_sp _).1, (open_sp _).2, words_sps a k]
    simp
theorem like_nil (k : Nat) : LikeW (List.replicate k 32) [] := by
  cases k with
  | zero => exact ⟨rfl, rfl⟩
  | succ k =>
    have h := LikeW.sps [] k
    have e : ([] : List Nat) ++ [32] ++ List.replicate k 32 = List.replicate (k + 1) 32 := by rw [List.replicate_succ]; rfl
    rw [e] at h
    have h2 := open_sp []
    refine ⟨h.1.trans ?_, h.2.trans ?_⟩
    · rw [h2.1]; rfl
    · rw [h2.2]; rfl
theorem rep32 (k : Nat) : (List.replicate k (TL.tl " ")).flatten = List.replicate k 32 := by
  have e : TL.tl (" " : Str) = [32] := by decide +kernel
  rw [e]
  induction k with
  | zero => rfl
  | succ k ih => rw [List.replicate_succ, List.flatten_cons, ih, List.replicate_succ]; rfl
def isSp (c : Nat) : Bool := decide (c = 32)
/-- how many spaces -/
def spc (l : List Nat) : Nat := (l.filter isSp).length
theorem spc_app (a b : List Nat) : spc (a ++ b) = spc a + spc b := by unfold spc; rw [List.filter_append, List.length_append]
theorem spc_one {c : Nat} (h : c = 32) : spc [c] = 1 := by rw [h]; rfl
theorem spc_le (l : List Nat) : spc l ≤ l.length := List.length_filter_le _ _
section
variable {P : Program} {w : World} {K : PySem.W.Frag} {mg : Str → Option Value} {base : Heap}
def spLoose : Sp := fun vs H Q _ => ∃ (p c : Addr) (x : Str) (n : Nat), vs = [.ref p, .str x] ∧ Pen H p c n ∧ n ≤ 2 ^ 29 ∧ x.length ≤ 200 ∧
  ∀ (y : Str) (H' : Hp), wordsOf (TL.tl y) = wordsOf (TL.tl x) → y.length ≤ x.length + 2 * spc (TL.tl x) + 2 → (∀ d ∈ TL.tl y, d ∈ TL.tl x ∨ d = 32) → Pen H' p c (n + 202) → Kp p H H' → Q (.str y) H'
abbrev s__law_loose : Stmt := top 28
abbrev N__law_loose : List Str := ["_law_pen_here", "_law_line", "_law_found", "_law_sign"]
abbrev P__law_loose : List Str := ["_law_pen_here", "_law_line"]
theorem sc__law_loose : FnScope N__law_loose P__law_loose (defScope s__law_loose) := ⟨rfl, rfl, rfl, by decide +kernel, rfl, by decide +kernel, by decide +kernel⟩

theorem ok_loose {f fD : Addr} {fd fdD : FuncData} (F : Fun K "_law_loose" "_law_loose" s__law_loose f fd) (T : TxtD K mg fD) (FD : Fun K "_law_draw" "_law_draw" s__law_draw fD fdD) (b_law_draw : Binds K fdD P__law_draw []) : FnOk P w K mg base CX0 2 f fd P__law_loose spLoose := by
  have G_law_draw : FnOk P w K mg base CX0 1 fD fdD P__law_draw spDraw := ok_draw FD T.toTxtA
  refine F.ok sc__law_loose (fun vs H Q E h => ?_) (fun cdv A outer s H vs Q E hr h => ?_)
  · obtain ⟨p, c, x, n, rfl, _⟩ := h
    rfl
  · obtain ⟨p, c, x, n, rfl, hp, hn, hl, k⟩ := h
    have hu := hu_of hr
    refine ⟨_, (pss_cons (ps_set (i := 2) sc__law_loose.nd rfl (Or.inl rfl) (pe_op op_mul_str pe_str (pe_call G_law_draw (hr.mono (by decide)) (by rfl) T.m_law_draw T.k_law_draw b_law_draw .nil pass0 (pa_cons (pv 0) (pa_cons pe_int pa_nil)))))
      (pss_cons (ps_for PassesOwn.never rfl (pi_str (pv 1)) (pg_name (i := 3) sc__law_loose.nd rfl (Or.inl rfl)) (pss_one (ps_set (i := 2) sc__law_loose.nd rfl (Or.inl rfl) (pe_op op_add_str (pv 2) (pe_ifExp (pt_cmpR op_eq (pv 3) pe_str (nomark _)) (pe_op op_mul_str pe_str (pe_op op_add pe_int (pe_call G_law_draw (hr.mono (by decide)) (by rfl) T.m_law_draw T.k_law_draw b_law_draw .nil pass0 (pa_cons (pv 0) (pa_cons pe_int pa_nil))))) (pv 3))))))
      (pss_one (ps_ret (pe_op op_add_str (pv 2) (pe_op op_mul_str pe_str (pe_call G_law_draw (hr.mono (by decide)) (by rfl) T.m_law_draw T.k_law_draw b_law_draw .nil pass0 (pa_cons (pv 0) (pa_cons pe_int pa_nil))))))))), ?_⟩
    have hlx : x.length = (TL.tl x).length := TL.len_tl x
    have one : (" " : Str).length = 1 := by decide +kernel
    refine ⟨_, rfl, p, c, 2, n, rfl, hp, by omega, by decide, by decide, fun d H1 d0 d1 hp1 k1 => ⟨" ", d, rfl, rfl, d0, by omega, by rw [one]; decide, fun r0 hr0 => ?_⟩⟩
    rw [rep32] at hr0
    refine ⟨_, rfl, x, rfl, for_it walk_strS (fun i σ H2 => ∃ (y : Str) (v3 : Option V), σ = [some (.ref p), some (.str x), some (.str y), v3] ∧ LikeW (TL.tl y) ((TL.tl x).take i) ∧ (TL.tl y).length ≤ i + 2 * spc ((TL.tl x).take i) + 1 ∧ (∀ e ∈ TL.tl y, e ∈ TL.tl x ∨ e = 32) ∧ Pen H2 p c (n + 1 + i) ∧ Kp p H H2)
      ⟨r0, none, rfl, by rw [hr0]; exact like_nil _, by rw [hr0, List.length_replicate]; omega, (fun e he => by rw [hr0] at he; exact Or.inr (List.eq_of_mem_replicate he)), hp1, k1⟩ (fun _ _ _ _ _ => trivial) ?_ ?_⟩
    · rintro i v σ H3 H2 hi ⟨y, v3, rfl, hw, hyl, hys, hp2, k2⟩ ⟨rfl, cc, hcc, rfl⟩
      obtain ⟨hlt, hce⟩ := List.getElem?_eq_some_iff.mp hcc
      have e1 : (TL.tl x).take (i + 1) = (TL.tl x).take i ++ [cc] := by rw [take_more hlt, hce]
      have hcx : cc ∈ TL.tl x := by rw [← hce]; exact List.getElem_mem hlt
      have hyn : y.length = (TL.tl y).length := TL.len_tl y
      have hsp := spc_le ((TL.tl x).take i)
      rw [List.length_take] at hsp
      have e32 : sg cc = " " ↔ cc = 32 := ⟨fun q => sg_inj (q : sg cc = sg 32), fun q => by rw [q]; rfl⟩
      refine ⟨_, rfl, _, rfl, rfl, _, rfl, ite2 (fun c1 => ?_) (fun c1 => ?_)⟩
      · have c1 : cc = 32 := e32.mp (by simpa using c1)
        refine ⟨_, rfl, p, c, 3, _, rfl, hp2, by omega, by decide, by decide, fun d' H4 d0' d1' hp4 k4 => ⟨_, _, rfl, rfl, " ", 1 + d', rfl, rfl, by omega, by omega, by rw [one]; decide, fun r1 hr1 => ?_⟩⟩
        rw [rep32, show (1 + d').toNat = d'.toNat + 1 by omega] at hr1
        have er : TL.tl (y ++ r1) = TL.tl y ++ [32] ++ List.replicate d'.toNat 32 := by rw [TL.tl_append, hr1, List.replicate_succ, List.append_assoc]; rfl
        have hr1l : r1.length = d'.toNat + 1 := by rw [TL.len_tl, hr1, List.length_replicate]
        refine ⟨y, r1, rfl, rfl, Nat.le_of_lt (small1000 (by omega)), y ++ r1, _, rfl, ?_, ?_, ?_, hp4.mono (by omega), k2.trans k4⟩
        · rw [er, e1, c1]
          have h1 := LikeW.sps (TL.tl y) d'.toNat
          have h2 := hw.sp
          exact ⟨h1.1.trans h2.1, h1.2.trans h2.2⟩
        · rw [er, e1, spc_app, spc_one c1, List.length_append, List.length_append, List.length_replicate, List.length_singleton]; omega
        · intro e he
          rw [er] at he
          rcases List.mem_append.mp he with h | h
          · rcases List.mem_append.mp h with h | h
            · exact hys e h
            · exact Or.inr (List.mem_singleton.mp h)
          · exact Or.inr (List.eq_of_mem_replicate h)
      · have c1 : cc ≠ 32 := fun q => by rw [e32.mpr q] at c1; simp at c1
        have er : TL.tl (y ++ sg cc) = TL.tl y ++ [cc] := by rw [TL.tl_append]; rfl
        refine ⟨_, rfl, y, sg cc, rfl, rfl, ?_, y ++ sg cc, _, rfl, ?_, ?_, ?_, hp2.mono (by omega), k2⟩
        · show y.length + 1 ≤ sizeLine
          exact Nat.le_of_lt (small1000 (by omega))
        · rw [er, e1]; exact hw.ch c1
        · rw [er, e1, spc_app, List.length_append, List.length_singleton]; omega
        · intro e he
          rw [er] at he
          rcases List.mem_append.mp he with h | h
          · exact hys e h
          · rw [List.mem_singleton.mp h]; exact Or.inl hcx
    · rintro σ H2 ⟨y, v3, rfl, hw, hyl, hys, hp2, k2⟩
      rw [hlx, List.take_length] at hw
      rw [hlx, List.take_length] at hyl
      rw [hlx] at hp2
      have hsp := spc_le (TL.tl x)
      have hyn : y.length = (TL.tl y).length := TL.len_tl y
      refine ⟨_, rfl, _, rfl, p, c, 2, _, rfl, hp2, by omega, by decide, by decide, fun d' H3 d0' d1' hp3 k3 => ⟨" ", d', rfl, rfl, d0', by omega, by rw [one]; decide, fun r2 hr2 => ?_⟩⟩
      rw [rep32] at hr2
      have hr2l : r2.length = d'.toNat := by rw [TL.len_tl, hr2, List.length_replicate]
      refine ⟨y, r2, rfl, rfl, Nat.le_of_lt (small1000 (by omega)), k (y ++ r2) H3 ?_ ?_ ?_ (hp3.mono (by omega)) (k2.trans k3)⟩
      · rw [TL.tl_append, hr2, words_sps]
        exact hw.words
      · rw [TL.len_tl, TL.tl_append, List.length_append, hr2, List.length_replicate]; omega
      · intro e he
        rw [TL.tl_append, hr2] at he
        rcases List.mem_append.mp he with h | h
        · exact hys e h
        · exact Or.inr (List.eq_of_mem_replicate h)
end
end Vf
set_option Elab.async false
set_option linter.all false
set_option maxRecDepth 100000
set_option maxHeartbeats 4000000
namespace Vf
open PySem L2 PyProof.Rows
theorem sum_le : ∀ {ys : List Str} {B : Nat}, (∀ y ∈ ys, y.length ≤ B) → (ys.map (·.length)).sum ≤ ys.length * B
  | [], _, _ => Nat.zero_le _
  | y :: ys, B, h => by
    have h1 := h y List.mem_cons_self
    have h2 := sum_le (ys := ys) (B := B) fun x hx => h x (List.mem_cons_of_mem _ hx)
    rw [List.map_cons, List.sum_cons, List.length_cons, Nat.add_mul]
    omega
theorem join_le {sep : Str} {ys : List Str} {B : Nat} (h : ∀ y ∈ ys, y.length ≤ B) : (Txt.join sep ys).length ≤ ys.length * (B + sep.length) := by
  rw [TL.join_eq]
  refine Nat.le_trans (StrLaws.join_length_le sep ys) ?_
  rw [Nat.mul_add]
  exact Nat.add_le_add_right (sum_le h) _
theorem int_small : ∀ n : Nat, n < 1000 → (Str.ofString (toString (n : Int))).length ≤ 3 := by decide +kernel
theorem num_read : ∀ k : Nat, k < 100 → numW (TL.numL k) = some k ∧ TL.numL k ≠ [] ∧ (32 : Nat) ∉ TL.numL k ∧ (10 : Nat) ∉ TL.numL k := by decide +kernel
theorem joinL_snoc (s : Nat) : ∀ {a : List (List Nat)} {b : List Nat}, a ≠ [] → TL.joinL [s] (a ++ [b]) = TL.joinL [s] a ++ [s] ++ b
  | [], _, h => absurd rfl h
  | [x], b, _ => by show x ++ ([s] ++ b) = x ++ [s] ++ b; rw [List.append_assoc]
  | x :: y :: r, b, _ => by
    have ih := joinL_snoc s (a := y :: r) (b := b) (List.cons_ne_nil _ _)
    show x ++ ([s] ++ TL.joinL [s] ((y :: r) ++ [b])) = x ++ ([s] ++ TL.joinL [s] (y :: r)) ++ [s] ++ b
    rw [ih]
    simp only [List.append_assoc]
theorem words_join {W : List (List Nat)} (hne : W ≠ []) (h : ∀ w ∈ W, 32 ∉ w ∧ w ≠ []) : wordsOf (TL.joinL [32] W) = W := by
  unfold wordsOf
  rw [TL.spl_join (s := 32) (S := []) hne fun w hw => (h w hw).1]
  exact List.filter_eq_self.mpr fun w hw => decide_eq_true (h w hw).2
theorem mem_joinL {s c : Nat} : ∀ {W : List (List Nat)}, c ∈ TL.joinL [s] W → c = s ∨ ∃ w ∈ W, c ∈ w
  | [], h => nomatch h
  | [p], h => Or.inr ⟨p, List.mem_cons_self, h⟩
  | p :: q :: r, h => by
    have h : c ∈ p ++ ([s] ++ TL.joinL [s] (q :: r)) := h
    rcases List.mem_append.mp h with h | h
    · exact Or.inr ⟨p, List.mem_cons_self, h⟩
    · rcases List.mem_append.mp h with h | h
      · exact Or.inl (List.mem_singleton.mp h)
      · rcases mem_joinL h with h | ⟨w, hw, h⟩
        · exact Or.inl h
        · exact Or.inr ⟨w, List.mem_cons_of_mem _ hw, h⟩
theorem cons_eq {α : Type} {a b : α} {l m : List α} (h : a = b) (h2 : l = m) : a :: l = b :: m := by rw [h, h2]
end Vf
set_option Elab.async false
set_option linter.all false
set_option maxRecDepth 100000
set_option maxHeartbeats 4000000
namespace Vf
open PySem L2 PyProof.Rows
theorem two_of {W : List (List Nat)} (h : W.length = 2) : ∃ a b, W = [a, b] := by
  rcases W with _ | ⟨a, _ | ⟨b, _ | ⟨c, r⟩⟩⟩
  · cases h
  · cases h
  · exact ⟨a, b, rfl⟩
  · simp at h
theorem spl_mem (S : List Nat) : ∀ (k : Nat) (acc l : List Nat), ∀ p ∈ TL.spl S k acc l, ∀ c ∈ p, c ∈ acc ∨ c ∈ l
  | k, acc, [], p, h, c, hc => by
    rw [TL.spl_nil, List.mem_singleton] at h
    rw [h] at hc
    exact Or.inl hc
  | 0, acc, d :: r, p, h, c, hc => by
    have e : TL.spl S 0 acc (d :: r) = if TL.pre S (d :: r) = true then acc :: TL.spl S (S.length - 1) [] r else TL.spl S 0 (acc ++ [d]) r := rfl
    rw [e] at h
    split at h
    · rcases List.mem_cons.mp h with q | q
      · rw [q] at hc; exact Or.inl hc
      · rcases spl_mem S _ [] r p q c hc with z | z
        · cases z
        · exact Or.inr (List.mem_cons_of_mem _ z)
    · rcases spl_mem S 0 _ r p h c hc with z | z
      · rcases List.mem_append.mp z with z | z
        · exact Or.inl z
        · rw [List.mem_singleton.mp z]; exact Or.inr List.mem_cons_self
      · exact Or.inr (List.mem_cons_of_mem _ z)
  | k + 1, acc, d :: r, p, h, c, hc => by
    rcases spl_mem S k acc r p h c hc with z | z
    · exact Or.inl z
    · exact Or.inr (List.mem_cons_of_mem _ z)
theorem textL_ch {t : List Nat} (h : chOk t) : ∀ W ∈ textL t, ∀ u ∈ W, chOk u := fun W hW u hu c hc => by
  obtain ⟨l, hl, rfl⟩ := List.mem_map.mp hW
  rcases spl_mem [32] 0 [] l u (List.mem_filter.mp hu).1 c hc with z | z
  · cases z
  · rcases spl_mem [10] 0 [] t l hl c z with z | z
    · cases z
    · exact h c z
theorem g_name {i : Nat} {v : V} {σ : L2.St} {H : Hp} {R : L2.St → Hp → Prop} (h : R (σ.set i (some v)) H) : gName i v σ H R := h
theorem ifS_restS {t : TT} {b u : TS} {D : Ends} {σ : L2.St} {H : Hp} {R : L2.St → Hp → Prop} (rest : ∀ σ' H', R σ' H' → u D σ' H') (h : (∀ σ' H', R σ' H' → u D σ' H') → t σ H (fun c H1 => if c = true then b { D with nx := u D } σ H1 else u D σ H1)) : tSeq (tIfS t b tNext) u D σ H := h rest
theorem shaped_mks {ws : List (List Nat)} (h : ∀ w ∈ ws, chOk w) : SeqAt.shaped (.list ((ws.map mkS).map PyData.str)) = true := by
  refine shaped_of (n := 1) ?_ (by rw [PyData.depth, List.map_map]; have := depth_all (n := 0) (f := PyData.str ∘ mkS) (fun _ => by simp [PyData.depth]) ws; omega) (by decide)
  rw [PyData.canLay0, canLayAll_strs', List.all_map, List.all_eq_true]
  intro w hw
  show PyData.strOk (mkS w) = true
  unfold PyData.strOk
  rw [← Array.all_toList]
  show ((TL.tl (mkS w)).all fun c => decide (c < 0x110000)) = true
  rw [tl_mkS, List.all_eq_true]
  exact fun c hc => decide_eq_true (h w hw c hc)
end Vf
set_option Elab.async false
set_option linter.all false
set_option maxRecDepth 100000
set_option maxHeartbeats 4000000
namespace Vf
open PySem L2 PyProof.Rows
/-- a line of a text -/
def TxOk (B : Nat) (x : Str) : Prop := x.length ≤ B ∧ chOk (TL.tl x) ∧ 10 ∉ TL.tl x
theorem TxOk.mono {B B' : Nat} {x : Str} (h : TxOk B x) (hb : B ≤ B') : TxOk B' x := ⟨Nat.le_trans h.1 hb, h.2⟩
instance (B : Nat) (x : Str) : Decidable (TxOk B x) := by unfold TxOk chOk; infer_instance
theorem cut_one {xs : List V} {a : Nat} : cutV xs (some (a : Int)) (some ((a : Int) + 1)) = (xs.drop a).take 1 := by
  unfold cutV
  rw [show (a : Int) + 1 = ((a + 1 : Nat) : Int) by omega, HT.sIx_nat, HT.sIx_nat]
  by_cases h : a < xs.length
  · rw [Nat.min_eq_left (by omega), Nat.min_eq_left (by omega), show a + 1 - a = 1 by omega]
  · rw [List.drop_of_length_le (i := a) (by omega), List.drop_of_length_le (by omega), List.take_nil, List.take_nil]
theorem cutS_sub {z : Str} {lo hi : Option Int} : ∀ c ∈ TL.tl (cutS z lo hi), c ∈ TL.tl z := by
  rw [cutS_tl]
  exact fun c hc => List.mem_of_mem_drop (List.mem_of_mem_take hc)
theorem cut_from_len {z : Str} {j : Nat} : (cutS z (some (j : Int)) none).length ≤ z.length - j := by
  rw [TL.len_tl, cutS_tl, HT.sIx_none, HT.sIx_nat, List.length_take, List.length_drop, TL.len_tl]; omega
theorem cut_to_len {z : Str} {j : Nat} (h : j ≤ z.length) : (cutS z none (some (j : Int))).length ≤ j := by
  rw [TL.len_tl, cut_to h, List.length_take]; omega
def signs (r : Str) : List Str := ["0", "1", "7", "+", ".", " ", "", "-", "a", "z", "\t", " 0", "good", r]
theorem signs_ok {r : Str} (h : TL.tl r = (List.replicate (31 : Int).toNat (TL.tl "9")).flatten) : ∀ x ∈ signs r, TxOk 31 x := by
  have h1 : ∀ x ∈ (["0", "1", "7", "+", ".", " ", "", "-", "a", "z", "\t", " 0", "good"] : List Str), TxOk 31 x := by decide +kernel
  have h2 : TxOk 31 r := by
    unfold TxOk chOk
    rw [TL.len_tl, h]
    decide +kernel
  intro x hx
  have e : signs r = (["0", "1", "7", "+", ".", " ", "", "-", "a", "z", "\t", " 0", "good"] : List Str) ++ [r] := rfl
  rw [e] at hx
  rcases List.mem_append.mp hx with h | h
  · exact h1 x h
  · rw [List.mem_singleton.mp h]; exact h2
theorem if10 {i : Nat} {σ : L2.St} {H : Hp} {Q : VK} {x : Int} (hx : σ[i]? = some (some (.int x))) (k : ∀ e : Nat, Q (.int (e : Nat)) H) : tIf (tTest (tOp (rI0 fun i j => V.bl (decide (i < j))) (tVar i) (tC (V.int 5)))) (tC (V.int 1)) (tC (V.int 0)) σ H Q :=
  ⟨_, hx, _, _, rfl, rfl, _, rfl, ite2 (fun _ => k 1) (fun _ => k 0)⟩
/-- the signs of all lines, and a line feed for each -/
def tot (ys : List Str) : Nat := (ys.map (·.length)).sum + ys.length
theorem tot_app (a b : List Str) : tot (a ++ b) = tot a + tot b := by
  unfold tot
  rw [List.map_append, List.sum_append, List.length_append]
  omega
theorem tot_one (x : Str) : tot [x] = x.length + 1 := by unfold tot; simp
theorem tot_cut (xs : List Str) (a : Nat) : tot (xs.take a) + tot (xs.drop a) = tot xs := by rw [← tot_app, List.take_append_drop]
theorem tot_at (xs : List Str) {a : Nat} (h : a < xs.length) : tot (xs.take a) + (xs[a].length + 1) + tot (xs.drop (a + 1)) = tot xs := by
  rw [← tot_one, ← tot_app, ← tot_app, List.append_assoc, List.singleton_append, ← List.drop_eq_getElem_cons h, List.take_append_drop]
theorem tot_first {xs : List Str} {B : Nat} (h : ∀ x ∈ xs, x.length ≤ B) : tot (xs.take 1) ≤ B + 1 := by
  cases xs with
  | nil => unfold tot; simp
  | cons x l =>
    have := h x List.mem_cons_self
    show tot [x] ≤ _
    rw [tot_one]; omega
section
variable {P : Program} {w : World} {K : PySem.W.Frag} {mg : Str → Option Value} {base : Heap}
def spBentL : Sp := fun vs H Q _ => ∃ (p c l o : Addr) (xs os : List Str) (n B : Nat), vs = [.ref p, .ref l, .ref o] ∧ Pen H p c n ∧ n ≤ 2 ^ 29 ∧ H l = some (.lst (xs.map V.str)) ∧ H o = some (.lst (os.map V.str)) ∧ 1 ≤ xs.length ∧ xs.length ≤ 30 ∧
  (∀ x ∈ xs, TxOk B x) ∧ 0 < os.length ∧ os.length ≤ 30 ∧ (∀ x ∈ os, TxOk 20 x) ∧ 20 ≤ B ∧ B ≤ 200 ∧
  ∀ (r : Addr) (ys : List Str) (H' : Hp), H' r = some (.lst (ys.map V.str)) → ys.length ≤ xs.length + 1 → (∀ y ∈ ys, TxOk (B + 31) y) → tot ys ≤ tot xs + B + 31 → Pen H' p c (n + 4) → Kp p H H' → Q (.ref r) H'
abbrev s__law_bent : Stmt := top 29
abbrev N__law_bent : List Str := ["_law_pen_here", "_law_lines", "_law_odd", "_law_at", "_law_sort", "_law_signs", "_law_line", "_law_more", "_law_place"]
abbrev P__law_bent : List Str := ["_law_pen_here", "_law_lines", "_law_odd"]
theorem sc__law_bent : FnScope N__law_bent P__law_bent (defScope s__law_bent) := ⟨rfl, rfl, rfl, by decide +kernel, rfl, by decide +kernel, by decide +kernel⟩

theorem ok_bentL {f fD fP : Addr} {fd fdD fdP : FuncData} (F : Fun K "_law_bent" "_law_bent" s__law_bent f fd) (T : TxtP K mg fD fP) (FD : Fun K "_law_draw" "_law_draw" s__law_draw fD fdD) (b_law_draw : Binds K fdD P__law_draw [])
    (FP : Fun K "_law_pick" "_law_pick" s__law_pick fP fdP) (b_law_pick : Binds K fdP P__law_pick []) : FnOk P w K mg base CX0 3 f fd P__law_bent spBentL := by
  have G_law_draw : FnOk P w K mg base CX0 1 fD fdD P__law_draw spDraw := ok_draw FD T.toTxtA
  have G_law_pick : FnOk P w K mg base CX0 2 fP fdP P__law_pick (spPickL K) := ok_pickL FP T.toTxtD FD b_law_draw
  refine F.ok sc__law_bent (fun vs H Q E h => ?_) (fun cdv A outer s H vs Q E hr h => ?_)
  · obtain ⟨p, c, l, o, xs, os, n, B, rfl, _⟩ := h
    rfl
  · obtain ⟨p, c, l, o, xs, os, n, B, rfl, hp, hn, hl, ho, hx1, hx30, hx, ho1, ho30, hok, hB, hB2, k⟩ := h
    have hu := hu_of hr
    refine ⟨_, (pss_cons (ps_par (i := 3) (j := 4) (by rfl) sc__law_bent.nd rfl rfl (by decide) rfl rfl (pa_cons (pe_call G_law_draw (hr.mono (by decide)) (by rfl) T.m_law_draw T.k_law_draw b_law_draw .nil pass0 (pa_cons (pv 0) (pa_cons (pe_callB call_len (by rfl) T.len PySem.boot_len (pa_cons (pv 1) pa_nil)) pa_nil))) (pa_cons (pe_call G_law_draw (hr.mono (by decide)) (by rfl) T.m_law_draw T.k_law_draw b_law_draw .nil pass0 (pa_cons (pv 0) (pa_cons pe_int pa_nil))) pa_nil)) (by rfl))
      (pss_cons (ps_if (pt_cmpR op_eq (pv 4) pe_int (nomark _)) (pss_one (ps_ret (pe_op op_cat (pe_slice sl_list (pv 1) po_none (po_some (pv 3))) (pe_slice sl_list (pv 1) (po_some (pe_op op_add (pv 3) pe_int)) po_none)))) pss_nil)
      (pss_cons (ps_if (pt_cmpR op_eq (pv 4) pe_int (nomark _)) (pss_one (ps_ret (pe_op op_cat (pe_op op_cat (pe_slice sl_list (pv 1) po_none (po_some (pv 3))) (pe_lst (pa_cons (pe_call G_law_pick (hr.mono (by decide)) (by rfl) T.m_law_pick T.k_law_pick b_law_pick .nil pass0 (pa_cons (pv 0) (pa_cons (pv 2) pa_nil))) pa_nil))) (pe_slice sl_list (pv 1) (po_some (pv 3)) po_none)))) pss_nil)
      (pss_cons (ps_if (pt_cmpR op_eq (pv 4) pe_int (nomark _)) (pss_one (ps_ret (pe_op op_cat (pe_op op_cat (pe_slice sl_list (pv 1) po_none (po_some (pv 3))) (pe_slice sl_list (pv 1) (po_some (pv 3)) (po_some (pe_op op_add (pv 3) pe_int)))) (pe_slice sl_list (pv 1) (po_some (pv 3)) po_none)))) pss_nil)
      (pss_cons (ps_set (i := 5) sc__law_bent.nd rfl (Or.inl rfl) (pe_lst (pa_cons pe_str (pa_cons pe_str (pa_cons pe_str (pa_cons pe_str (pa_cons pe_str (pa_cons pe_str (pa_cons pe_str (pa_cons pe_str (pa_cons pe_str (pa_cons pe_str (pa_cons pe_str (pa_cons pe_str (pa_cons pe_str (pa_cons (pe_op op_mul_str pe_str pe_int) pa_nil))))))))))))))))
      (pss_cons (ps_par (i := 6) (j := 7) (by rfl) sc__law_bent.nd rfl rfl (by decide) rfl rfl (pa_cons (pe_ix ix_list (pv 1) (pv 3) (fun _ _ => rfl)) (pa_cons (pe_call G_law_pick (hr.mono (by decide)) (by rfl) T.m_law_pick T.k_law_pick b_law_pick .nil pass0 (pa_cons (pv 0) (pa_cons (pv 5) pa_nil))) pa_nil)) (by rfl))
      (pss_cons (ps_set (i := 8) sc__law_bent.nd rfl (Or.inl rfl) (pe_call G_law_draw (hr.mono (by decide)) (by rfl) T.m_law_draw T.k_law_draw b_law_draw .nil pass0 (pa_cons (pv 0) (pa_cons (pe_op op_add (pe_callB call_len (by rfl) T.len PySem.boot_len (pa_cons (pv 6) pa_nil)) pe_int) pa_nil))))
      (pss_cons (ps_set (i := 6) sc__law_bent.nd rfl (Or.inl rfl) (pe_op op_add_str (pe_op op_add_str (pe_slice sl_str (pv 6) po_none (po_some (pv 8))) (pv 7)) (pe_slice sl_str (pv 6) (po_some (pe_op op_add (pv 8) (pe_ifExp (pt_cmpR op_lt (pv 4) pe_int (nomark _)) pe_int pe_int))) po_none)))
      (pss_one (ps_ret (pe_op op_cat (pe_op op_cat (pe_slice sl_list (pv 1) po_none (po_some (pv 3))) (pe_lst (pa_cons (pv 6) pa_nil))) (pe_slice sl_list (pv 1) (po_some (pe_op op_add (pv 3) pe_int)) po_none)))))))))))), ?_⟩
    obtain ⟨kv0, hk0⟩ := id hp.dk
    have nlp : l ≠ p := ne_of hl hk0 (fun z => nomatch z)
    have nop : o ≠ p := ne_of ho hk0 (fun z => nomatch z)
    refine ⟨_, rfl, _, rfl, _, _, rfl, Or.inl ⟨_, SqL.of hl, rfl⟩, p, c, _, n, rfl, hp, by omega, by rw [List.length_map]; omega, by rw [List.length_map]; omega, fun d H1 d0 d1 hp1 k1 => ?_⟩
    rw [List.length_map] at d1
    obtain ⟨a, rfl⟩ : ∃ a : Nat, d = (a : Nat) := ⟨d.toNat, by omega⟩
    have ha : a < xs.length := by omega
    have hl1 := k1 _ _ hl nlp
    refine ⟨_, rfl, p, c, 7, _, rfl, hp1, by omega, by decide, by decide, fun srt H2 e0 e1 hp2 k2 => ⟨_, _, rfl, ?_⟩⟩
    have k02 := k1.trans k2
    have hl2 := k02 _ _ hl nlp
    have ho2 := k02 _ _ ho nop
    have ea : (a : Int) + 1 = ((a + 1 : Nat) : Int) := by omega
    have hln : ∀ m : Nat, m ≤ 100 → m ≤ sizeLine := fun m hm => Nat.le_of_lt (small1000 (by omega))
    refine ⟨_, rfl, rfl, _, rfl, ite2 (fun _ => ?_) (fun c0 => ?_)⟩
    · refine ⟨_, rfl, _, rfl, _, rfl, l, _, rfl, SqL.of hl2, fun A1 hA1 => ?_⟩
      rw [cutV_toN]
      have s1 : Same H2 (L2.upd H2 A1 (.lst ((xs.map V.str).take a))) := same_new hA1
      refine ⟨_, rfl, _, rfl, _, _, rfl, rfl, _, rfl, l, _, rfl, SqL.of (s1 _ _ hl2), fun A2 hA2 => ?_⟩
      dsimp only
      rw [ea, cutV_fromN]
      have s2 := s1.trans (same_new (o := .lst ((xs.map V.str).drop (a + 1))) hA2)
      refine ⟨A1, A2, _, _, rfl, rfl, same_new hA2 _ _ upd_same, upd_same, hln _ (by rw [List.length_take, List.length_drop, List.length_map]; omega), fun A3 hA3 => ?_⟩
      have s3 := s2.trans (same_new (o := .lst ((xs.map V.str).take a ++ (xs.map V.str).drop (a + 1))) hA3)
      refine k A3 (xs.take a ++ xs.drop (a + 1)) _ (by rw [upd_same, List.map_append, List.map_take, List.map_drop]) (by rw [List.length_append, List.length_take, List.length_drop]; omega) (fun y hy => ?_) (by have h1 := tot_at xs ha; rw [tot_app]; omega) ((hp2.same s3).mono (by omega)) (k02.trans (Kp.of s3))
      rcases List.mem_append.mp hy with h | h
      · exact (hx y (List.mem_of_mem_take h)).mono (by omega)
      · exact (hx y (List.mem_of_mem_drop h)).mono (by omega)
    refine ⟨_, rfl, rfl, _, rfl, ite2 (fun _ => ?_) (fun c1 => ?_)⟩
    · refine ⟨_, rfl, _, rfl, _, rfl, l, _, rfl, SqL.of hl2, fun A1 hA1 => ?_⟩
      rw [cutV_toN]
      have s1 : Same H2 (L2.upd H2 A1 (.lst ((xs.map V.str).take a))) := same_new hA1
      have hA1' : (L2.upd H2 A1 (.lst ((xs.map V.str).take a))) A1 = some (.lst ((xs.map V.str).take a)) := upd_same
      obtain ⟨nA1p, nA1c⟩ := hp2.new hA1
      generalize L2.upd H2 A1 (.lst ((xs.map V.str).take a)) = H3 at s1 hA1' ⊢
      refine ⟨_, rfl, _, rfl, p, c, o, _, _, rfl, hp2.same s1, by omega, SqL.of (s1 _ _ ho2), by rw [List.length_map]; exact ho1, by rw [List.length_map]; omega, fun j v H4 hj hp4 k4 => ?_⟩
      obtain ⟨y, hy, rfl⟩ : ∃ y ∈ os, v = V.str y := by
        rw [List.getElem?_map] at hj
        cases e : os[j]? with
        | none => rw [e] at hj; cases hj
        | some y => rw [e] at hj; exact ⟨y, List.mem_of_getElem? e, (Option.some.inj hj).symm⟩
      have hl4 := k4 _ _ (s1 _ _ hl2) nlp
      have hA14 := k4 _ _ hA1' nA1p
      refine ⟨by show 1 ≤ sizeLine; decide, fun A2 hA2 => ⟨A1, A2, _, _, rfl, rfl, same_new hA2 _ _ hA14, upd_same, hln _ (by rw [List.length_take, List.length_map]; show min a xs.length + 1 ≤ 100; omega), fun A3 hA3 => ?_⟩⟩
      have s3 := (same_new (o := .lst [V.str y]) hA2).trans (same_new (o := .lst ((xs.map V.str).take a ++ [V.str y])) hA3)
      refine ⟨_, rfl, _, rfl, _, rfl, l, _, rfl, SqL.of (s3 _ _ hl4), fun A4 hA4 => ?_⟩
      rw [cutV_fromN]
      have s4 := s3.trans (same_new (o := .lst ((xs.map V.str).drop a)) hA4)
      refine ⟨A3, A4, _, _, rfl, rfl, same_new hA4 _ _ upd_same, upd_same, hln _ (by rw [List.length_append, List.length_take, List.length_drop, List.length_map]; show min a xs.length + 1 + (xs.length - a) ≤ 100; omega), fun A5 hA5 => ?_⟩
      have s5 := s4.trans (same_new (o := .lst ((xs.map V.str).take a ++ [V.str y] ++ (xs.map V.str).drop a)) hA5)
      refine k A5 (xs.take a ++ [y] ++ xs.drop a) _ (by rw [upd_same, List.map_append, List.map_append, List.map_take, List.map_drop]; rfl) (by rw [List.length_append, List.length_append, List.length_take, List.length_drop]; show min a xs.length + 1 + (xs.length - a) ≤ xs.length + 1; omega) (fun u hu' => ?_) (by have h1 := tot_cut xs a; have h2 := (hok y hy).1; rw [tot_app, tot_app, tot_one]; omega) ((hp4.same s5).mono (by omega)) ((k02.trans (Kp.of s1)).trans (k4.trans (Kp.of s5)))
      rcases List.mem_append.mp hu' with h | h
      · rcases List.mem_append.mp h with h | h
        · exact (hx u (List.mem_of_mem_take h)).mono (by omega)
        · rw [List.mem_singleton.mp h]; exact (hok y hy).mono (by omega)
      · exact (hx u (List.mem_of_mem_drop h)).mono (by omega)
    refine ⟨_, rfl, rfl, _, rfl, ite2 (fun _ => ?_) (fun c2 => ?_)⟩
    · refine ⟨_, rfl, _, rfl, _, rfl, l, _, rfl, SqL.of hl2, fun A1 hA1 => ?_⟩
      rw [cutV_toN]
      have s1 : Same H2 (L2.upd H2 A1 (.lst ((xs.map V.str).take a))) := same_new hA1
      refine ⟨_, rfl, _, rfl, _, rfl, _, rfl, _, _, rfl, rfl, _, rfl, l, _, rfl, SqL.of (s1 _ _ hl2), fun A2 hA2 => ?_⟩
      dsimp only
      rw [cut_one]
      have s2 := s1.trans (same_new (o := .lst (((xs.map V.str).drop a).take 1)) hA2)
      refine ⟨A1, A2, _, _, rfl, rfl, same_new hA2 _ _ upd_same, upd_same, hln _ (by rw [List.length_take, List.length_take, List.length_drop, List.length_map]; omega), fun A3 hA3 => ?_⟩
      have s3 := s2.trans (same_new (o := .lst ((xs.map V.str).take a ++ ((xs.map V.str).drop a).take 1)) hA3)
      refine ⟨_, rfl, _, rfl, _, rfl, l, _, rfl, SqL.of (s3 _ _ hl2), fun A4 hA4 => ?_⟩
      rw [cutV_fromN]
      have s4 := s3.trans (same_new (o := .lst ((xs.map V.str).drop a)) hA4)
      refine ⟨A3, A4, _, _, rfl, rfl, same_new hA4 _ _ upd_same, upd_same, hln _ (by rw [List.length_append, List.length_take, List.length_take, List.length_drop, List.length_map]; omega), fun A5 hA5 => ?_⟩
      have s5 := s4.trans (same_new (o := .lst ((xs.map V.str).take a ++ ((xs.map V.str).drop a).take 1 ++ (xs.map V.str).drop a)) hA5)
      refine k A5 (xs.take a ++ (xs.drop a).take 1 ++ xs.drop a) _ (by rw [upd_same, List.map_append, List.map_append, List.map_take, List.map_take, List.map_drop]) (by rw [List.length_append, List.length_append, List.length_take, List.length_take, List.length_drop]; omega) (fun u hu' => ?_) (by have h1 := tot_cut xs a; have h2 := tot_first (xs := xs.drop a) (B := B) fun x hx' => (hx x (List.mem_of_mem_drop hx')).1; rw [tot_app, tot_app]; omega) ((hp2.same s5).mono (by omega)) (k02.trans (Kp.of s5))
      rcases List.mem_append.mp hu' with h | h
      · rcases List.mem_append.mp h with h | h
        · exact (hx u (List.mem_of_mem_take h)).mono (by omega)
        · exact (hx u (List.mem_of_mem_drop (List.mem_of_mem_take h))).mono (by omega)
      · exact (hx u (List.mem_of_mem_drop h)).mono (by omega)
    refine ⟨_, _, rfl, rfl, by decide, by decide, by decide +kernel, fun r hr9 => ?_⟩
    refine ⟨by show 14 ≤ sizeLine; decide, fun S hS => ?_⟩
    have hso := signs_ok hr9
    have hSS : (L2.upd H2 S (.lst ((signs r).map V.str))) S = some (.lst ((signs r).map V.str)) := upd_same
    have s1 : Same H2 (L2.upd H2 S (.lst ((signs r).map V.str))) := same_new hS
    change gName 5 (V.ref S) _ (L2.upd H2 S (.lst ((signs r).map V.str))) _
    generalize L2.upd H2 S (.lst ((signs r).map V.str)) = H3 at hSS s1 ⊢
    have hsl : (signs r).length = 14 := rfl
    generalize signs r = sg_ at hSS hso hsl
    refine ⟨_, rfl, _, rfl, l, _, _, .str xs[a], rfl, rfl, SqL.of (s1 _ _ hl2), at_of' rfl (by rw [List.getElem?_map, List.getElem?_eq_getElem ha]; rfl), _, rfl, _, rfl, p, c, S, _, _, rfl, hp2.same s1, by omega, SqL.of hSS, by rw [List.length_map, hsl]; decide, by rw [List.length_map, hsl]; decide, fun j v H4 hj hp4 k4 => ?_⟩
    obtain ⟨y, hy, rfl⟩ : ∃ y ∈ sg_, v = V.str y := by
      rw [List.getElem?_map] at hj
      cases e : sg_[j]? with
      | none => rw [e] at hj; cases hj
      | some y => rw [e] at hj; exact ⟨y, List.mem_of_getElem? e, (Option.some.inj hj).symm⟩
    obtain ⟨hxa1, hxa2, hxa3⟩ := hx _ (List.getElem_mem ha)
    obtain ⟨hy1, hy2, hy3⟩ := hso y hy
    have hl4 := k4 _ _ (s1 _ _ hl2) nlp
    have hxs : xs[a].length ≤ sizeLine := Nat.le_of_lt (small1000 (by omega))
    refine ⟨_, _, rfl, ?_⟩
    refine ⟨_, rfl, _, rfl, _, _, rfl, ⟨hxs, rfl⟩, _, _, rfl, rfl, p, c, _, _, rfl, hp4, by omega, by omega, by omega, fun d2 H5 f0 f1 hp5 k5 => ?_⟩
    obtain ⟨b, rfl⟩ : ∃ b : Nat, d2 = (b : Nat) := ⟨d2.toNat, by omega⟩
    have hb : b ≤ xs[a].length := by omega
    have hl5 := k5 _ _ hl4 nlp
    have tail : ∀ (e : Nat), TxOk (B + 31) (cutS xs[a] none (some (b : Int)) ++ y ++ cutS xs[a] (some ((b + e : Nat) : Int)) none) := fun e => ⟨by
        have h1 := cut_to_len hb
        have h2 := cut_from_len (z := xs[a]) (j := b + e)
        rw [TL.len_tl, TL.tl_append, TL.tl_append, List.length_append, List.length_append, ← TL.len_tl, ← TL.len_tl, ← TL.len_tl]
        omega, fun c hc => by
        rw [TL.tl_append, TL.tl_append] at hc
        rcases List.mem_append.mp hc with h | h
        · rcases List.mem_append.mp h with h | h
          · exact hxa2 c (cutS_sub c h)
          · exact hy2 c h
        · exact hxa2 c (cutS_sub c h), fun hc => by
        rw [TL.tl_append, TL.tl_append] at hc
        rcases List.mem_append.mp hc with h | h
        · rcases List.mem_append.mp h with h | h
          · exact hxa3 (cutS_sub _ h)
          · exact hy3 h
        · exact hxa3 (cutS_sub _ h)⟩
    refine ⟨_, rfl, _, rfl, _, rfl, xs[a], rfl, hxs, _, rfl, _, _, rfl, rfl, ?_, _, rfl, _, rfl, if10 rfl (fun e => ⟨_, _, rfl, rfl, _, rfl, xs[a], rfl, hxs, _, _, rfl, rfl, ?_, ?_⟩)⟩
    · have h1 := cut_to_len hb
      exact Nat.le_of_lt (small1000 (by omega))
    · have h1 := (tail e).1
      rw [TL.len_tl, TL.tl_append, List.length_append, ← TL.len_tl, ← TL.len_tl] at h1
      exact Nat.le_of_lt (small1000 (by show _ + (cutS xs[a] (some ((b + e : Nat) : Int)) none).length ≤ _; omega))
    · have ht := tail e
      change gName 6 (.str (cutS xs[a] none (some (b : Int)) ++ y ++ cutS xs[a] (some ((b + e : Nat) : Int)) none)) _ _ _
      generalize cutS xs[a] none (some (b : Int)) ++ y ++ cutS xs[a] (some ((b + e : Nat) : Int)) none = u at ht ⊢
      refine ⟨_, rfl, _, rfl, _, rfl, l, _, rfl, SqL.of hl5, fun A1 hA1 => ?_⟩
      rw [cutV_toN]
      refine ⟨_, rfl, by show 1 ≤ sizeLine; decide, fun A2 hA2 => ⟨A1, A2, _, _, rfl, rfl, same_new hA2 _ _ upd_same, upd_same, hln _ (by rw [List.length_take, List.length_map]; show min a xs.length + 1 ≤ 100; omega), fun A3 hA3 => ?_⟩⟩
      have s3 := ((same_new (o := .lst ((xs.map V.str).take a)) hA1).trans (same_new (o := .lst [V.str u]) hA2)).trans (same_new (o := .lst ((xs.map V.str).take a ++ [V.str u])) hA3)
      refine ⟨_, rfl, _, rfl, _, _, rfl, rfl, _, rfl, l, _, rfl, SqL.of (s3 _ _ hl5), fun A4 hA4 => ?_⟩
      dsimp only
      rw [ea, cutV_fromN]
      have s4 := s3.trans (same_new (o := .lst ((xs.map V.str).drop (a + 1))) hA4)
      refine ⟨A3, A4, _, _, rfl, rfl, same_new hA4 _ _ upd_same, upd_same, hln _ (by rw [List.length_append, List.length_take, List.length_drop, List.length_map]; show min a xs.length + 1 + (xs.length - (a + 1)) ≤ 100; omega), fun A5 hA5 => ?_⟩
      have s5 := s4.trans (same_new (o := .lst ((xs.map V.str).take a ++ [V.str u] ++ (xs.map V.str).drop (a + 1))) hA5)
      refine k A5 (xs.take a ++ [u] ++ xs.drop (a + 1)) _ (by rw [upd_same, List.map_append, List.map_append, List.map_take, List.map_drop]; rfl) (by rw [List.length_append, List.length_append, List.length_take, List.length_drop]; show min a xs.length + 1 + (xs.length - (a + 1)) ≤ xs.length + 1; omega) (fun u' hu' => ?_) (by have h1 := tot_at xs ha; have h2 := ht.1; rw [tot_app, tot_app, tot_one]; omega) ((hp5.same s5).mono (by omega)) ((k02.trans (Kp.of s1)).trans ((k4.trans k5).trans (Kp.of s5)))
      rcases List.mem_append.mp hu' with h | h
      · rcases List.mem_append.mp h with h | h
        · exact (hx u' (List.mem_of_mem_take h)).mono (by omega)
        · rw [List.mem_singleton.mp h]; exact ht
      · exact (hx u' (List.mem_of_mem_drop h)).mono (by omega)
end
end Vf
set_option Elab.async false
set_option linter.all false
set_option maxRecDepth 100000
set_option maxHeartbeats 4000000
/-! sep.join(reversed(a list of texts)) -/
namespace Vf
open PySem PySem.Spec PyProof.Rows L2
open PySem.Builtin PySem.Builtin.Str PySem.Builtin.Int
section
variable {prog : Program} {w : World} {A : Around} {E : Value → Shared → Prop} {s : Shared}
theorem call_join_rev {x : PySem.Str} {t : Tok} {it l : Addr} {items : Array Value} {ys : List PySem.Str} {Q : Value → Shared → Prop} (hh : A.handled = none) (hit : s.heap.IsRevIter it l ((items.size : Int) - 1)) (hl : s.heap.IsList l items) (hne : l ≠ it) (hn : items.size ≤ sizeLine)
    (hP : ∀ acc : Array Value, ItemsOf (fun i v => items[items.size - 1 - i]? = some v) acc items.size → StrsAre acc.toList ys) (hok : (ys.map (·.length)).sum + ys.length * x.length ≤ 16777216)
    (hQ : ∀ (h' : Heap) (tk t' : Nat), (∀ b o, b ≠ it → s.heap.get? b = some o → h'.get? b = some o) → Q (.str (Txt.join x ys) t') { s with heap := h', toks := tk }) :
    wpAny (model prog w) A (call (.builtin "str.join") [.str x t, .ref it]) Q E s := by
  refine wpAny_call (codeAny_call_builtin F.slot_str_join.plain F.entry_str_join (F.slot_str_join.check _ _ _ _ _ _ _ _ (typeIs_str _ _ _) (F.args_str_join_2 _ _) ?_))
  rw [join_tree_other]
  refine wpAny_bind (wpAny_typeOf hit.typeIs ?_)
  show wpAny _ A.in1 ((pyIter (.ref it)).tryCatch _ >>= fun it => collect it >>= fun items => joinTail x items) _ _ s
  refine wpAny_bind (wpAny_tryCatch (wpAny_pyIter_revIter hit ?_))
  have hh1 : A.in1.handled = none := hh
  refine wpAny_bind (RT.collect_rev hh1 hit hl hne hn fun h' tk acc hk hacc => ?_)
  obtain ⟨l, hl, ht⟩ := PyProof.Rows.strsAre_values (hP acc hacc)
  subst ht
  rw [hl]
  have hok' := PyProof.Rows.joinOk_of hok
  unfold JoinOk at hok'
  rw [Bool.not_eq_true'] at hok'
  have g : Gives (joinTail x (strValues l)) (joinMade x l) := by
    have g0 := gives_joinTail x l hok'
    cases l with
    | nil => exact g0
    | cons p r => cases r with
      | nil => exact g0
      | cons q r' => exact g0
  exact g prog w A (wants Q E) _ (post_join l ⟨joinFit_length hok', fun t' k => hQ h' k t' hk⟩)
end
theorem strsAre_vals : ∀ {ys : List PySem.Str} {us : List Value}, Vals (ys.map V.str) us → StrsAre us ys
  | [], _, .nil => .nil
  | y :: ys, _, .cons r t => by obtain ⟨k, rfl⟩ := r; exact .cons y k (strsAre_vals t)
section
variable {X : Cx}
def tJoinRev (K : PySem.W.Frag) (to te : TE) : TE := fun σ H Q => to σ H fun x H1 => (∃ a, x = .str a) ∧ te σ H1 fun v H2 => ∃ (a : PySem.Str) (q : Addr) (ys : List PySem.Str), x = .str a ∧ v = .ref q ∧ SqL K H2 q (ys.map V.str) ∧ (ys.map (·.length)).sum + ys.length * a.length ≤ 16777216 ∧ Q (.str (Txt.join a ys.reverse)) H2
theorem pe_joinRev {o e : Expr} {to te : TE} {apos pos p pos2 : Pos} (hc : X.calm = true) (ho : PE X o to) (hg : Gl X "reversed") (hm : X.mg "reversed" = none) (he : PE X e te)
    (hs1 : starEach [.Call (.Name "reversed" p) [e] [] pos2] X.env = [(false, eval (.Call (.Name "reversed" p) [e] [] pos2) X.env)] := by rfl)
    (hs : starEach [e] X.env = (false, eval e X.env) :: starEach [] X.env := by rfl)
    (hbase : attributeBase o "join" X.env (eval o X.env) = eval o X.env := by rfl) (hline : (apos.endLine == pos.line) = true := by rfl) :
    PE X (.Call (.Attribute o "join" apos) [.Call (.Name "reversed" p) [e] [] pos2] [] pos) (tJoinRev X.K to te) := by
  refine ⟨fun pins s σ H Q I h => ?_⟩
  refine PySem.Call_method1 hbase hs1 hline (thn (ho.run pins s σ H _ I h) fun v s1 ⟨x, H1, I1, r1, q1⟩ => ?_)
  obtain ⟨⟨a, rfl⟩, q1⟩ := q1
  obtain ⟨t, rfl⟩ := _root_.id r1
  refine ⟨"str", _, F.plainAttrs_str, F.slot_str_join, F.type_str_join, typeIs_str _ _ _, (fun _ e => nomatch e), Calls.callWith_builtin rfl (Calls.evalArgs_plain (Calls.spliced_cons ?_))⟩
  refine Call_ (ld_blt I1 hg hm PyProof.Rows.boot_reversed (PyProof.Rows.callWith_type1 (args_cons (thn (he.run pins s1 σ H1 _ I1 q1) fun u s2 ⟨v, H2, I2, r2, q2⟩ => args_nil ?_) hs) hs rfl))
  obtain ⟨a', q, ys, ea, rfl, hq, hz, q3⟩ := q2
  cases ea
  obtain rfl : u = Value.ref q := r2
  obtain ⟨its, rv, p', hsz⟩ := I2.list hq
  refine call_reversed_list p'.isList (Calls.spliced_nil ?_)
  have k0 : ∀ b o, s2.heap.get? b = some o → (s2.heap.push (PySem.revObj q ((its.toArray.size : Int) - 1))).get? b = some o := fun b o e => Heap.get?_push_of_some _ e
  have I3 : Inv X pins σ H2 { s2 with heap := s2.heap.push (PySem.revObj q ((its.toArray.size : Int) - 1)) } := I2.kept (t' := s2.toks) k0
  obtain ⟨f0, f1, f2, f3, f4, f5⟩ := I2.fpOk (H' := H2) (b := s2.heap.objs.size) (Nat.le_refl _) (I2.hok.fresh (Nat.le_refl _))
  have hl := p'.isList
  obtain ⟨ol, hol, _⟩ := id hl
  have hne : q ≠ s2.heap.objs.size := Nat.ne_of_lt (Heap.lt_size hol)
  have hn : its.toArray.size ≤ sizeLine := by rw [List.size_toArray, ← rv.length]; exact hsz
  refine call_join_rev (s := { s2 with heap := s2.heap.push (PySem.revObj q ((its.toArray.size : Int) - 1)) }) (ys := ys.reverse) (I2.ok.hd hc) ⟨_, Heap.get?_push_size _ rfl, rfl, rfl⟩ (hl.push _) hne hn (fun acc hacc => ?_) (by rw [List.map_reverse, List.sum_reverse, List.length_reverse]; exact hz) fun h' tk t' hk => ?_
  · have := RT.vals_rev rv hacc
    rw [← List.map_reverse] at this
    exact strsAre_vals this
  · have I4 : Inv X pins σ H2 { s2 with heap := h', toks := tk } := I3.turned (t' := tk) (fun b o hb e => hk b o hb e) f0 f1 f3 f4 f5
    exact ⟨.str _, H2, I4, ⟨t', rfl⟩, q3⟩
end
end Vf
set_option Elab.async false
set_option linter.all false
set_option maxRecDepth 100000
set_option maxHeartbeats 4000000
namespace Vf
open PySem L2 PyProof.Rows
/-- f'..' -/
def tF (ts : List TE) : TE := fun σ H Q => tJs ts Str.empty σ H fun out H1 => Q (.str out) H1
theorem pe_fstr {X : Cx} {v1 v2 : Expr} {rest : List Expr} {ts : List TE} {pos : Pos} (h : PJ X (v1 :: v2 :: rest) ts) : PE X (.JoinedStr (v1 :: v2 :: rest) pos) (tF ts) := pe_joined h
structure TxtDe (mg : Str → Option Value) : Prop where
  str : mg "str" = none
  reversed : mg "reversed" = none
section
variable {P : Program} {w : World} {K : PySem.W.Frag} {mg : Str → Option Value} {base : Heap}
def spDec : Sp := fun vs H Q _ => ∃ n : Nat, vs = [.int n] ∧ n < 10 ^ 60 ∧ ∀ H', Same H H' → Q (.str (Str.ofString (toString (n : Int)))) H'
abbrev s_decimal : Stmt := top 11
abbrev N_decimal : List Str := ["number", "rest", "pieces", "piece"]
abbrev P_decimal : List Str := ["number"]
theorem sc_decimal : FnScope N_decimal P_decimal (defScope s_decimal) := ⟨rfl, rfl, rfl, by decide +kernel, rfl, by decide +kernel, by decide +kernel⟩

theorem ok_dec {f : Addr} {fd : FuncData} (F : Fun K "decimal" "decimal" s_decimal f fd) (T : TxtDe mg) : FnOk P w K mg base CX0 1 f fd P_decimal spDec := by
  refine F.ok sc_decimal (fun vs H Q E h => ?_) (fun cdv A outer s H vs Q E hr h => ?_)
  · obtain ⟨n, rfl, _⟩ := h
    rfl
  · obtain ⟨n, rfl, hn, k⟩ := h
    refine ⟨_, (pss_cons (ps_set (i := 1) sc_decimal.nd rfl (Or.inl rfl) (pv 0))
      (pss_cons (ps_set (i := 2) sc_decimal.nd rfl (Or.inl rfl) (pe_lst pa_nil))
      (pss_cons (ps_while PassesOwn.never (pt_cmpR op_ge (pv 1) (pe_op op_pow pe_int pe_int) (nomark _)) (pss_cons ps_never
      (pss_one ps_never)))
      (pss_one (ps_ret (pe_op op_add_str (pe_callTy call_str_int (by rfl) T.str boot_str (pa_cons (pv 1) pa_nil)) (pe_joinRev rfl pe_str (by rfl) T.reversed (pv 2)))))))), ?_⟩
    refine ⟨_, rfl, by show 0 ≤ sizeLine; decide, fun D hD => ?_⟩
    have s1 : Same H (L2.upd H D (.lst [])) := same_new hD
    have hD1 : (L2.upd H D (.lst [])) D = some (.lst (([] : List Str).map V.str)) := upd_same
    change tSeq _ _ _ _ (L2.upd H D (.lst []))
    generalize L2.upd H D (.lst []) = H1 at s1 hD1 ⊢
    have hw : ¬ ((10 : Int) ^ (60 : Int).toNat ≤ (n : Int)) := by
      have : (10 : Int) ^ (60 : Int).toNat = ((10 ^ 60 : Nat) : Int) := by decide +kernel
      rw [this]
      omega
    refine ⟨fun m σ H => σ = [some (.int n), some (.int n), some (.ref D), none] ∧ H = H1, ⟨0, rfl, rfl⟩, ?_⟩
    rintro m σ H2 ⟨rfl, rfl⟩
    refine ⟨_, rfl, _, _, rfl, rfl, by unfold CPow; decide, _, _, rfl, rfl, _, rfl, ite2 (fun c => absurd (of_decide_eq_true c) hw) (fun _ => ?_)⟩
    have hlog : ((n : Nat) : Int).natAbs.log2 < 1920 := PySem.Flt.log2_lt_of (by decide) (by
      show n < 2 ^ 1920
      exact Nat.lt_of_lt_of_le hn (by decide +kernel))
    have hlen : (Str.ofString (toString (n : Int))).length ≤ 100 := by
      rw [TL.len_tl, TL.tl_num]
      exact Nat.le_trans (TL.numL_len (by decide) hn) (by decide)
    refine ⟨_, rfl, _, rfl, hlog, ⟨_, rfl⟩, _, rfl, "", D, [], rfl, rfl, SqL.of hD1, Nat.zero_le _, _, _, rfl, rfl, ?_, ?_⟩
    · show _ + 0 ≤ sizeLine
      exact Nat.le_of_lt (small1000 (by omega))
    · have e : Str.ofString (toString (n : Int)) ++ Txt.join (Str.ofString "") [].reverse = Str.ofString (toString (n : Int)) := TL.ext_tl (by rw [TL.tl_append]; exact List.append_nil _)
      rw [e]
      exact k _ s1
end
end Vf
set_option Elab.async false
set_option linter.all false
set_option maxRecDepth 100000
set_option maxHeartbeats 4000000
namespace Vf
open PySem L2 PyProof.Rows
theorem CodeAt.same {K : PySem.W.Frag} {C o : Addr} {H H' : Hp} {z : Str} {rs : List Row} {es : List Int} (c : CodeAt K C H o z rs es) (s : Same H H') : CodeAt K C H' o z rs es := by
  obtain ⟨dx, R, E, h1, h2, h3⟩ := c
  exact ⟨dx, R, E, s _ _ h1, h2.mv (Kl.same s), h3.mv (Kl.same s)⟩
theorem CodeAt.kp {K : PySem.W.Frag} {C o p : Addr} {H H' : Hp} {z : Str} {rs : List Row} {es : List Int} {kvs : List (Key × V)} (c : CodeAt K C H o z rs es) (k : Kp p H H') (hp : H p = some (.dK kvs)) : CodeAt K C H' o z rs es := by
  obtain ⟨dx, R, E, h1, h2, h3⟩ := c
  exact ⟨dx, R, E, k _ _ h1 (L2.ne_of h1 hp (by intro z; cases z)), h2.mv (Kl.kp k hp), h3.mv (Kl.kp k hp)⟩
def numS (i : Int) : Str := Str.ofString (toString i)
/-- rows and ends as they stand in a text: any goals that are states, any bits below 10 ** 60 -/
structure Fit (m : Nat) (rs : List Row) (es : List Int) : Prop where
  len : es.length = rs.length
  pos : 0 < rs.length
  most : rs.length ≤ 60
  row : ∀ r ∈ rs, r.length = m ∧ ∀ gb ∈ r, 0 ≤ gb.1 ∧ gb.1 < (rs.length : Nat) ∧ 0 ≤ gb.2 ∧ gb.2 < 10 ^ 40
  ends : ∀ e ∈ es, 0 ≤ e ∧ e < 10 ^ 40
def pairS (gb : Int × Int) : Str := Str.empty ++ numS gb.1 ++ "+" ++ numS gb.2
def endS (e : Int) : Str := Str.empty ++ "." ++ numS e
def lineC (r : Row) (e : Int) : Str := Txt.join " " (r.map pairS ++ [endS e])
def headC (z : Str) : Str := Str.empty ++ "code " ++ z
def linesC (z : Str) (rs : List Row) (es : List Int) : List Str := headC z :: List.zipWith lineC rs es
def strC (z : Str) (rs : List Row) (es : List Int) : Str := Txt.join "\n" (linesC z rs es)
theorem numS_len {i : Int} (h0 : 0 ≤ i) (h : i < 10 ^ 40) : (numS i).length ≤ 40 := by
  obtain ⟨n, rfl⟩ : ∃ n : Nat, i = n := ⟨i.toNat, by omega⟩
  have h : n < 10 ^ 40 := by omega
  unfold numS
  rw [TL.len_tl, TL.tl_num]
  exact TL.numL_len (by decide) h
theorem str_len (a b : Str) : (a ++ b).length = a.length + b.length := by rw [TL.len_tl, TL.tl_append, List.length_append, ← TL.len_tl, ← TL.len_tl]
theorem empty_len : Str.empty.length = 0 := by decide +kernel
theorem numS_log {i : Int} (h0 : 0 ≤ i) (h : i < 10 ^ 40) : i.natAbs.log2 < 1920 := PySem.Flt.log2_lt_of (by decide) (by
  have : i.natAbs < 10 ^ 40 := by omega
  exact Nat.lt_of_lt_of_le this (by decide +kernel))
theorem pairS_len {gb : Int × Int} (h : 0 ≤ gb.1 ∧ gb.1 < 10 ^ 40 ∧ 0 ≤ gb.2 ∧ gb.2 < 10 ^ 40) : (pairS gb).length ≤ 81 := by
  unfold pairS
  rw [str_len, str_len, str_len, empty_len, show ("+" : Str).length = 1 by decide +kernel]
  have h1 := numS_len h.1 h.2.1
  have h2 := numS_len h.2.2.1 h.2.2.2
  omega
theorem endS_len {e : Int} (h0 : 0 ≤ e) (h : e < 10 ^ 40) : (endS e).length ≤ 41 := by
  unfold endS
  rw [str_len, str_len, empty_len, show ("." : Str).length = 1 by decide +kernel]
  have h1 := numS_len h0 h
  omega
def linesK (z : Str) (rs : List Row) (es : List Int) (j : Nat) : List Str := headC z :: (List.range j).map fun i => lineC (rs.getD i []) (es.getD i 0)
theorem linesK_succ (z : Str) (rs : List Row) (es : List Int) (j : Nat) : linesK z rs es (j + 1) = linesK z rs es j ++ [lineC (rs.getD j []) (es.getD j 0)] := by
  unfold linesK
  rw [List.range_succ, List.map_append]; rfl
theorem linesK_all {z : Str} {rs : List Row} {es : List Int} (h : es.length = rs.length) : linesK z rs es rs.length = linesC z rs es := by
  unfold linesK linesC
  refine congrArg (headC z :: ·) (List.ext_getElem (by rw [List.length_map, List.length_range, List.length_zipWith]; omega) fun i h1 h2 => ?_)
  rw [List.getElem_map, List.getElem_range, List.getElem_zipWith]
  rw [List.length_zipWith] at h2
  rw [List.getD_eq_getElem?_getD, List.getElem?_eq_getElem (by omega), Option.getD_some, List.getD_eq_getElem?_getD, List.getElem?_eq_getElem (by omega), Option.getD_some]
theorem lineC_len {r : Row} {e : Int} {B : Nat} (hr : r.length ≤ 3) (h : ∀ gb ∈ r, (pairS gb).length ≤ 81) (he : (endS e).length ≤ 41) : (lineC r e).length ≤ 400 := by
  have h1 : (lineC r e).length ≤ (r.map pairS ++ [endS e]).length * (81 + (" " : Str).length) := join_le fun y hy => by
    rcases List.mem_append.mp hy with q | q
    · obtain ⟨gb, hgb, rfl⟩ := List.mem_map.mp q
      exact h gb hgb
    · rw [List.mem_singleton.mp q]; omega
  rw [List.length_append, List.length_map, List.length_singleton, show (" " : Str).length = 1 by decide +kernel] at h1
  have : (r.length + 1) * 82 ≤ 4 * 82 := Nat.mul_le_mul_right _ (by omega)
  omega
structure TxtSr (K : PySem.W.Frag) (mg : Str → Option Value) (C fDe : Addr) : Prop where
  cl : Cls K C
  nL : NoAttr K C "letters"
  nR : NoAttr K C "rows"
  nE : NoAttr K C "ends"
  zip : mg "zip" = none
  mdecimal : mg "decimal" = some (.ref fDe)
  kdecimal : PySem.W.keepIn K (.ref fDe) = true
section
variable {P : Program} {w : World} {K : PySem.W.Frag} {mg : Str → Option Value} {base : Heap}
def spStrC (K : PySem.W.Frag) (C : Addr) : Sp := fun vs H Q _ => ∃ (o : Addr) (z : Str) (rs : List Row) (es : List Int), vs = [.ref o] ∧ CodeAt K C H o z rs es ∧ Fit z.length rs es ∧ z.length ≤ 3 ∧ ∀ H', Same H H' → Q (.str (strC z rs es)) H'
abbrev s_Code___str__ : Stmt := inClass (top 13) 3
abbrev N_Code___str__ : List Str := ["self", "lines", "row", "end", "words", "goal", "bits"]
abbrev P_Code___str__ : List Str := ["self"]
theorem sc_Code___str__ : FnScope N_Code___str__ P_Code___str__ (defScope s_Code___str__) := ⟨rfl, rfl, rfl, by decide +kernel, rfl, by decide +kernel, by decide +kernel⟩

theorem ok_strC {f C fDe : Addr} {fd fdDe : FuncData} (F : Fun K "__str__" "Code.__str__" s_Code___str__ f fd) (T : TxtSr K mg C fDe) (Gdecimal : FnOk P w K mg base CX0 1 fDe fdDe P_decimal spDec) (bdecimal : Binds K fdDe P_decimal []) : FnOk P w K mg base CX0 2 f fd P_Code___str__ (spStrC K C) := by
  refine F.ok sc_Code___str__ (fun vs H Q E h => ?_) (fun cdv A outer s H vs Q E hr h => ?_)
  · obtain ⟨o, z, rs, es, rfl, _⟩ := h
    rfl
  · obtain ⟨o, z, rs, es, rfl, ⟨dx, R, Ev, ho, hR, hE⟩, hf, hz, k⟩ := h
    refine ⟨_, (pss_cons (ps_set (i := 1) sc_Code___str__.nd rfl (Or.inl rfl) (pe_lst (pa_cons (pe_fstr (.cons pe_str (.cons (pe_fmt (pe_fld (pv 0) rfl)) .nil))) pa_nil)))
      (pss_cons (ps_for PassesOwn.never rfl (RZ.pi_zipA (by rfl) T.zip (pa_cons (pe_fld (pv 0) rfl) (pa_cons (pe_fld (pv 0) rfl) pa_nil))) (pg_tup (by rfl) (pgs_cons (pg_name (i := 2) sc_Code___str__.nd rfl (Or.inl rfl)) (pgs_cons (pg_name (i := 3) sc_Code___str__.nd rfl (Or.inl rfl)) pgs_nil))) (pss_cons (ps_setLc (i := 4) (own := [("goal", 5), ("bits", 6)]) (g := gTup K 2 (gCons (gName 5) (gCons (gName 6) gNil))) (by rfl) sc_Code___str__.nd rfl rfl (sw_true rfl rfl rfl (by decide +kernel)) (pi_seq (K := K) rfl (pv 2)) (blkOk_by (own := [("goal", 5), ("bits", 6)]) (N := N_Code___str__) (sc := defScope s_Code___str__) (by decide +kernel)) (fun _ _ _ _ _ => (pg_tup (by rfl) (pgs_cons (pg_name (i := 5) sc_Code___str__.nd rfl (Or.inl rfl)) (pgs_cons (pg_name (i := 6) sc_Code___str__.nd rfl (Or.inl rfl)) pgs_nil)))) (fun _ _ _ _ _ => pts_nil) (fun _ _ _ _ _ => (pe_fstr (.cons (pe_fmt (pv 5)) (.cons pe_str (.cons (pe_fmt (pe_call Gdecimal (hr.mono (by decide)) (by rfl) T.mdecimal T.kdecimal bdecimal .nil pass0 (pa_cons (pv 6) pa_nil))) .nil))))))
      (pss_one (ps_expr (pe_bm PySem.F.plainAttrs_list PySem.F.slot_list_append PySem.F.type_list_append mt_append (pv 1) (pa_cons (pe_join pe_str (pe_lst (StX.pa_star (pv 4) (pa_cons (pe_fstr (.cons pe_str (.cons (pe_fmt (pe_call Gdecimal (hr.mono (by decide)) (by rfl) T.mdecimal T.kdecimal bdecimal .nil pass0 (pa_cons (pv 3) pa_nil))) .nil))) pa_nil)))) pa_nil))))))
      (pss_one (ps_ret (pe_join pe_str (pv 1)))))), ?_⟩
    have hzs : z.length ≤ sizeLine := Nat.le_of_lt (small1000 (by omega))
    have hhl : (headC z).length ≤ 8 := by
      unfold headC
      rw [str_len, str_len, empty_len, show ("code " : Str).length = 5 by decide +kernel]
      omega
    have hln : ∀ m : Nat, m ≤ 100 → m ≤ sizeLine := fun m hm => Nat.le_of_lt (small1000 (by omega))
    obtain ⟨ra, xs, rfl, hR1, hR2⟩ := hR.tupE
    obtain ⟨ea, ys, rfl, hE1, hE2⟩ := hE.tupE
    obtain rfl := dpAll_intsE hE2
    have hxl : xs.length = rs.length := by rw [hR2.length, List.length_map]
    have hrw : ∀ (i : Nat) (hi : i < rs.length) (x : V), xs[i]? = some x → ∃ q ts, x = .ref q ∧ SqT K H q ts ∧ DpAll K H ts (rs[i].map tupD) := fun i hi x hx => by
      obtain ⟨v, h1, h2⟩ := hR2.get (i := i) (d := rowT rs[i]) (by rw [List.getElem?_map, List.getElem?_eq_getElem hi]; rfl)
      rw [h1] at hx
      cases hx
      exact h2.tupE
    have e5 : (Str.empty ++ ("code " : Str)).length ≤ sizeLine := by decide +kernel
    refine ⟨_, rfl, e5, _, rfl, o, C, dx, _, _, rfl, ho, T.cl, T.nL, cf_letters _ _ _, Or.inl ⟨z, rfl, hzs, z, rfl, Nat.le_of_lt (small1000 (by show (headC z).length ≤ 1000; omega)), by show 1 ≤ sizeLine; decide, fun D hD => ?_⟩⟩
    have s1 : Same H (L2.upd H D (.lst [.str (headC z)])) := same_new hD
    have hD1 : (L2.upd H D (.lst [.str (headC z)])) D = some (.lst ((linesK z rs es 0).map V.str)) := upd_same
    change gName 1 (.ref D) _ (L2.upd H D (.lst [.str (headC z)])) _
    generalize L2.upd H D (.lst [.str (headC z)]) = H1 at s1 hD1 ⊢
    refine ⟨_, rfl, o, C, dx, _, _, rfl, s1 _ _ ho, T.cl, T.nR, cf_rows _ _ _, _, rfl, o, C, dx, _, _, rfl, s1 _ _ ho, T.cl, T.nE, cf_ends _ _ _, ra, ea, xs, es.map V.int, rfl, Or.inr ⟨(Kl.same s1).seqT hR1, (Kl.same s1).seqT hE1, RZ.for_zipT (by rw [List.length_map, hxl, hf.len]) (fun i σ H2 => ∃ v2 v3 v4 v5 v6 : Option V, σ = [some (.ref o), some (.ref D), v2, v3, v4, v5, v6] ∧ H2 D = some (.lst ((linesK z rs es i).map V.str)) ∧ Same H H2)
      ⟨none, none, none, none, none, rfl, hD1, s1⟩ (fun i σ H2 ⟨_, _, _, _, _, _, _, s2⟩ => ⟨(Kl.same s2).seqT hR1, (Kl.same s2).seqT hE1⟩) ?_ ?_⟩⟩
    · rintro i x y TT σ H2 hx hy ⟨v2, v3, v4, v5, v6, rfl, hD2, s2⟩ hTT
      have hi : i < rs.length := by
        have := (List.getElem?_eq_some_iff.mp hx).1
        omega
      have hie : i < es.length := by rw [hf.len]; exact hi
      obtain rfl : V.int es[i] = y := by
        rw [List.getElem?_map, List.getElem?_eq_getElem hie] at hy
        exact Option.some.inj hy
      obtain ⟨q, ts, rfl, hq, hts⟩ := hrw i hi x hx
      obtain ⟨hrl, hrb⟩ := hf.row _ (List.getElem_mem hi)
      obtain ⟨he0, he1⟩ := hf.ends _ (List.getElem_mem hie)
      have s3 : Same H (L2.upd H2 TT (.tup [.ref q, .int es[i]])) := s2.trans (same_new hTT)
      have hD3 := same_new (o := .tup [.ref q, .int es[i]]) hTT _ _ hD2
      refine ⟨TT, _, rfl, SqT.of upd_same, rfl, _, _, rfl, _, _, rfl, rfl, ?_⟩
      generalize L2.upd H2 TT (.tup [.ref q, .int es[i]]) = H3 at s3 hD3
      have htl : ts.length = rs[i].length := by rw [hts.length, List.length_map]
      refine ⟨_, rfl, q, ts, rfl, Or.inr ((Kl.same s3).seqT hq), fun J hJ W hW => lc_it hJ (fun k H4 => H4 W = some (.lst (((rs[i].take k).map pairS).map V.str)) ∧ Same H3 H4) ⟨upd_same, same_new hW⟩ (fun k H4 _ ⟨_, s4⟩ => GSq.same s4) ?_ ?_⟩
      · rintro k x H5 H4 hk ⟨hW4, s4⟩ ⟨rfl, hx⟩
        have hk' : k < rs[i].length := by omega
        obtain ⟨v, h1, h2⟩ := hts.get (i := k) (d := tupD rs[i][k]) (by rw [List.getElem?_map, List.getElem?_eq_getElem hk']; rfl)
        rw [h1] at hx
        cases hx
        obtain ⟨t, us, rfl, ht, hus⟩ := h2.tupE
        obtain ⟨b0, b1, b2, b3⟩ := hrb _ (List.getElem_mem hk')
        obtain rfl : us = [.int rs[i][k].1, .int rs[i][k].2] := dpAll_intsE (cs := [rs[i][k].1, rs[i][k].2]) hus
        have s04 := s3.trans s4
        have hrl60 := hf.most
        have c0 : rs[i][k].1 < 10 ^ 40 := Int.lt_of_lt_of_le b1 (by omega)
        have hpl := pairS_len (gb := rs[i][k]) ⟨b0, c0, b2, b3⟩
        obtain ⟨bn, hbn⟩ : ∃ bn : Nat, rs[i][k].2 = bn := ⟨rs[i][k].2.toNat, by omega⟩
        have l1 := numS_len b0 c0
        have l2 := numS_len b2 b3
        have le1 : (Str.empty ++ numS rs[i][k].1).length ≤ sizeLine := by rw [str_len, empty_len]; exact hln _ (by omega)
        have le2 : (Str.empty ++ numS rs[i][k].1 ++ "+").length ≤ sizeLine := by rw [str_len, str_len, empty_len, show ("+" : Str).length = 1 by decide +kernel]; exact hln _ (by omega)
        refine ⟨t, _, rfl, (Kl.same s04).seqT ht, rfl, _, _, rfl, _, _, rfl, rfl, rfl, ?_⟩
        refine lcYes ?_
        refine ⟨_, rfl, Or.inr ⟨_, rfl, numS_log b0 c0, _, rfl, le1, _, rfl, le2, _, rfl, bn, by rw [← hbn]; rfl, by omega, fun H5 s5 => Or.inl ⟨_, rfl, by rw [← hbn]; exact hln _ (by show (numS _).length ≤ 100; omega), _, rfl, ?_, _, s5 _ _ hW4, ?_, ?_, (s4.trans s5).put hW⟩⟩⟩
        · rw [← hbn]; exact hln _ (by show (pairS _).length ≤ 100; omega)
        · rw [List.length_map, List.length_map, List.length_take]; exact small1000 (by omega)
        · rw [upd_same, take_more hk', List.map_append, List.map_append, ← hbn]; rfl
      · rintro H4 ⟨hW4, s4⟩
        rw [htl, List.take_length] at hW4
        have hD4 := s4 _ _ hD3
        obtain ⟨en, hen⟩ : ∃ en : Nat, es[i] = en := ⟨es[i].toNat, by omega⟩
        have l3 := numS_len he0 he1
        have l4 := endS_len he0 he1
        have hrl60 := hf.most
        have hpl : ∀ gb ∈ rs[i], (pairS gb).length ≤ 81 := fun gb hgb => by
          obtain ⟨b0, b1, b2, b3⟩ := hrb gb hgb
          exact pairS_len ⟨b0, Int.lt_of_lt_of_le b1 (by omega), b2, b3⟩
        have hlkl : (linesK z rs es i).length = i + 1 := by unfold linesK; rw [List.length_cons, List.length_map, List.length_range]
        refine ⟨_, rfl, Or.inl ⟨rfl, _, SqL.of hD4⟩, ⟨_, rfl⟩, _, rfl, W, _, rfl, Or.inr (SqL.of hW4), _, rfl, hln _ (by rw [str_len, empty_len]; decide +kernel), _, rfl, en, by rw [← hen]; rfl, by omega, fun H5 s5 => Or.inl ⟨_, rfl, by rw [← hen]; exact hln _ (by show (numS _).length ≤ 100; omega), _, rfl, by rw [← hen]; exact hln _ (by show (endS _).length ≤ 100; omega), ?_, fun A hA => ?_⟩⟩
        · rw [List.length_append, List.length_map, List.length_map]; exact hln _ (by show rs[i].length + 1 ≤ 100; omega)
        · have s6 := s5.trans (same_new (o := .lst ((rs[i].map pairS).map V.str ++ [V.str (Str.empty ++ "." ++ Str.ofString (toString (en : Int)))])) hA)
          refine ⟨" ", A, rs[i].map pairS ++ [endS es[i]], rfl, rfl, Or.inl (SqL.of (by rw [upd_same, List.map_append, hen]; rfl)), ?_, D, _, _, rfl, rfl, s6 _ _ hD4, small1000 (by rw [List.length_map, hlkl]; omega), _, _, _, _, _, rfl, ?_, ((s3.trans s4).trans s6).put hD⟩
          · refine Nat.le_trans (Nat.add_le_add_right (sum_le (B := 81) fun y hy => ?_) _) ?_
            · rcases List.mem_append.mp hy with u | u
              · obtain ⟨gb, hgb, rfl⟩ := List.mem_map.mp u
                exact hpl gb hgb
              · rw [List.mem_singleton.mp u]; omega
            · rw [show (" " : Str).length = 1 by decide +kernel, List.length_append, List.length_map]
              show (rs[i].length + 1) * 81 + (rs[i].length + 1) * 1 ≤ _
              omega
          · rw [upd_same, linesK_succ, List.map_append]
            rw [List.getD_eq_getElem?_getD, List.getElem?_eq_getElem hi, Option.getD_some, List.getD_eq_getElem?_getD, List.getElem?_eq_getElem hie, Option.getD_some]
            rfl
    · rintro σ H2 ⟨v2, v3, v4, v5, v6, rfl, hD2, s2⟩
      rw [hxl, linesK_all hf.len] at hD2
      refine ⟨⟨_, rfl⟩, _, rfl, "\n", D, linesC z rs es, rfl, rfl, Or.inl (SqL.of hD2), ?_, k _ s2⟩
      have hle : ∀ y ∈ linesC z rs es, y.length ≤ 400 := fun y hy => by
        rcases List.mem_cons.mp hy with u | u
        · rw [u]; omega
        · obtain ⟨i, hi, rfl⟩ := List.getElem_of_mem u
          rw [List.length_zipWith] at hi
          have hl := hf.len
          have hrl60 := hf.most
          rw [List.getElem_zipWith]
          obtain ⟨hrl, hrb⟩ := hf.row _ (List.getElem_mem (show i < rs.length by omega))
          obtain ⟨he0, he1⟩ := hf.ends _ (List.getElem_mem (show i < es.length by omega))
          exact lineC_len (B := 0) (by omega) (fun gb hgb => by
            obtain ⟨b0, b1, b2, b3⟩ := hrb gb hgb
            exact pairS_len ⟨b0, Int.lt_of_lt_of_le b1 (by omega), b2, b3⟩) (endS_len he0 he1)
      have hll : (linesC z rs es).length ≤ 61 := by
        unfold linesC
        rw [List.length_cons, List.length_zipWith]
        have := hf.most
        omega
      have h1 := sum_le hle
      rw [show ("\n" : Str).length = 1 by decide +kernel]
      have : (linesC z rs es).length * 400 ≤ 61 * 400 := Nat.mul_le_mul_right _ hll
      have h2 : ((linesC z rs es).map fun x => x.length).sum ≤ 24400 := by
        show ((linesC z rs es).map (·.length)).sum ≤ _
        omega
      omega
end
end Vf
set_option Elab.async false
set_option linter.all false
set_option maxRecDepth 100000
set_option maxHeartbeats 4000000
namespace Vf
open PySem L2 PyProof.Rows
theorem split_plus (x : Str) : Txt.split x "+" = (TL.spl [43] 0 [] (TL.tl x)).map mkS := by
  have := SX.split_S (a := TL.tl x) (b := [43]) (by decide) (by decide)
  rw [show SX.S (TL.tl x) = x from mkS_tl x, show SX.S [43] = ("+" : Str) by rfl] at this
  exact this
/-- a word that tells a goal and bits -/
def pairN (n : Nat) : Option Nat → Option Nat → Option (Nat × Nat)
  | some g, some k => if g < n then some (g, k) else none
  | _, _ => none
def pairW (n : Nat) (w : List Nat) : Option (Nat × Nat) := match TL.spl [43] 0 [] w with
  | [a, b] => pairN n (numW a) (numW b)
  | _ => none
section
variable {P : Program} {w : World} {K : PySem.W.Frag} {mg : Str → Option Value} {base : Heap}
def spReadP : Sp := fun vs H Q _ => ∃ (x : Str) (n : Nat), vs = [.str x, .int n] ∧ x.length ≤ 600 ∧ (pairW n (TL.tl x) = none → ∀ H', Same H H' → Q .non H') ∧
  (∀ g b, pairW n (TL.tl x) = some (g, b) → ∀ t H', Same H H' → H t = none → H' t = some (.tup [.int (g : Nat), .int (b : Nat)]) → Q (.ref t) H')
structure TxtRP (K : PySem.W.Frag) (mg : Str → Option Value) (fRN : Addr) : Prop where
  len : mg "len" = none
  mread_number : mg "read_number" = some (.ref fRN)
  kread_number : PySem.W.keepIn K (.ref fRN) = true
abbrev s_read_pair : Stmt := top 16
abbrev N_read_pair : List Str := ["word", "states", "parts", "goal", "bits"]
abbrev P_read_pair : List Str := ["word", "states"]
theorem sc_read_pair : FnScope N_read_pair P_read_pair (defScope s_read_pair) := ⟨rfl, rfl, rfl, by decide +kernel, rfl, by decide +kernel, by decide +kernel⟩

theorem ok_readP {f fRN : Addr} {fd fdRN : FuncData} (F : Fun K "read_pair" "read_pair" s_read_pair f fd) (T : TxtRP K mg fRN) (Gread_number : FnOk P w K mg base CX0 1 fRN fdRN P_read_number spReadN) (bread_number : Binds K fdRN P_read_number []) : FnOk P w K mg base CX0 2 f fd P_read_pair spReadP := by
  refine F.ok sc_read_pair (fun vs H Q E h => ?_) (fun cdv A outer s H vs Q E hr h => ?_)
  · obtain ⟨x, n, rfl, _⟩ := h
    rfl
  · obtain ⟨x, n, rfl, hl, k0, k1⟩ := h
    refine ⟨_, (pss_cons (ps_set (i := 2) sc_read_pair.nd rfl (Or.inl rfl) (pe_split (pv 0) pe_str))
      (pss_cons (ps_if (pt_cmpR op_ne (pe_callB call_len (by rfl) T.len PySem.boot_len (pa_cons (pv 2) pa_nil)) pe_int (nomark _)) (pss_one (ps_ret pe_non)) pss_nil)
      (pss_cons (ps_par (i := 3) (j := 4) (by rfl) sc_read_pair.nd rfl rfl (by decide) rfl rfl (pa_cons (pe_call Gread_number (hr.mono (by decide)) (by rfl) T.mread_number T.kread_number bread_number .nil pass0 (pa_cons (pe_ix ix_list (pv 2) pe_int (fun _ _ => rfl)) pa_nil)) (pa_cons (pe_call Gread_number (hr.mono (by decide)) (by rfl) T.mread_number T.kread_number bread_number .nil pass0 (pa_cons (pe_ix ix_list (pv 2) pe_int (fun _ _ => rfl)) pa_nil)) pa_nil)) (by rfl))
      (pss_cons (ps_if (PW.pt (pw_or (pt_cmpR op_isN (pv 3) pe_non (nomark _)) (pw_or (pt_cmpR op_isN (pv 4) pe_non (nomark _)) (pw_or1 (pt_cmpR op_ge (pv 3) (pv 1) (nomark _)))))) (pss_one (ps_ret pe_non)) pss_nil)
      (pss_one (ps_ret (pe_tup (pa_cons (pv 3) (pa_cons (pv 4) pa_nil))))))))), ?_⟩
    have hxs : x.length + 2 ≤ sizeLine := Nat.le_of_lt (small1000 (by omega))
    have hpl : ∀ p ∈ TL.spl [43] 0 [] (TL.tl x), p.length ≤ 600 := fun p hp => by
      have := spl_len [43] 0 [] (TL.tl x) p hp
      rw [List.length_nil, ← TL.len_tl] at this
      omega
    refine ⟨_, rfl, ⟨_, rfl⟩, x, "+", rfl, rfl, by decide +kernel, hxs, fun p hp => ?_⟩
    rw [split_plus]
    have s0 : Same H (L2.upd H p (.lst (((TL.spl [43] 0 [] (TL.tl x)).map mkS).map V.str))) := same_new hp
    have hp0 : (L2.upd H p (.lst (((TL.spl [43] 0 [] (TL.tl x)).map mkS).map V.str))) p = some (.lst (((TL.spl [43] 0 [] (TL.tl x)).map mkS).map V.str)) := upd_same
    change gName 2 (.ref p) _ (L2.upd H p (.lst (((TL.spl [43] 0 [] (TL.tl x)).map mkS).map V.str))) _
    generalize L2.upd H p (.lst (((TL.spl [43] 0 [] (TL.tl x)).map mkS).map V.str)) = H1 at s0 hp0 ⊢
    unfold pairW at k0 k1
    generalize TL.spl [43] 0 [] (TL.tl x) = ps at hp0 hpl k0 k1
    refine ⟨_, rfl, _, _, rfl, Or.inl ⟨_, SqL.of hp0, rfl⟩, rfl, _, rfl, ?_⟩
    by_cases h2 : ps.length = 2
    · obtain ⟨a, b, rfl⟩ := two_of h2
      refine ite2 (fun c => absurd c (by simp)) (fun _ => ?_)
      have la := hpl a List.mem_cons_self
      have lb := hpl b (List.mem_cons_of_mem _ List.mem_cons_self)
      refine ⟨_, rfl, p, _, 0, .str (mkS a), rfl, rfl, SqL.of hp0, at_of' (show (0 : Int) = ((0 : Nat) : Int) from rfl) rfl, mkS a, rfl, by rw [TL.len_tl, tl_mkS]; exact la, fun H2 s2 => ?_⟩
      rw [tl_mkS]
      refine ⟨_, rfl, p, _, 1, .str (mkS b), rfl, rfl, SqL.of (s2 _ _ hp0), at_of' (show (1 : Int) = ((1 : Nat) : Int) from rfl) rfl, mkS b, rfl, by rw [TL.len_tl, tl_mkS]; exact lb, fun H3 s3 => ⟨_, _, rfl, ?_⟩⟩
      rw [tl_mkS]
      have s03 := (s0.trans s2).trans s3
      cases ha : numW a with
      | none =>
        have k0 := k0 (by show pairN n (numW a) (numW b) = none; rw [ha]; rfl) H3 s03
        exact ⟨_, rfl, rfl, _, rfl, ite2 (fun _ => k0) (fun c => absurd (by simp [numV]) c)⟩
      | some g =>
        refine ⟨_, rfl, rfl, _, rfl, ite2 (fun c => absurd c (by simp [numV])) (fun _ => ?_)⟩
        cases hb : numW b with
        | none =>
          have k0 := k0 (by show pairN n (numW a) (numW b) = none; rw [ha, hb]; rfl) H3 s03
          exact ⟨_, rfl, rfl, _, rfl, ite2 (fun _ => k0) (fun c => absurd (by simp [numV]) c)⟩
        | some k =>
          refine ⟨_, rfl, rfl, _, rfl, ite2 (fun c => absurd c (by simp [numV])) (fun _ => ?_)⟩
          refine ⟨_, rfl, _, rfl, _, _, rfl, rfl, _, rfl, ite2 (fun c => ?_) (fun c => ?_)⟩
          · have c : (n : Int) ≤ (g : Nat) := of_decide_eq_true c
            exact k0 (by show pairN n (numW a) (numW b) = none; rw [ha, hb]; exact if_neg (by omega)) H3 s03
          · have c : ¬ (n : Int) ≤ (g : Nat) := fun q => c (decide_eq_true q)
            refine ⟨_, rfl, _, rfl, by show 2 ≤ sizeLine; decide, fun t ht => k1 g k (by show pairN n (numW a) (numW b) = some (g, k); rw [ha, hb]; exact if_pos (by omega)) t _ (s03.trans (same_new ht)) (s03.free ht) upd_same⟩
    · refine ite2 (fun _ => ?_) (fun c => absurd (by simp; omega) c)
      refine k0 ?_ _ s0
      split
      · exact absurd rfl h2
      · rfl
end
end Vf
set_option Elab.async false
set_option linter.all false
set_option maxRecDepth 100000
set_option maxHeartbeats 4000000
namespace Vf
open PySem L2 PyProof.Rows
theorem cut_last {xs : List V} {x : V} : cutV (xs ++ [x]) none (some (-1)) = xs := by
  unfold cutV
  rw [HT.sIx_none]
  have e : HT.sIx (xs ++ [x]).length (xs ++ [x]).length (some (-1)) = xs.length := by
    unfold HT.sIx
    simp
    omega
  rw [e, List.drop_zero, Nat.sub_zero, List.take_left]
def optD : Option (Nat × Nat) → PyData
  | none => .none
  | some p => .tuple [.int (p.1 : Nat), .int (p.2 : Nat)]
def isN (o : Option (Nat × Nat)) : Bool := o.isNone
theorem any_optD (os : List (Option (Nat × Nat))) : ((os.map optD).any fun z => PyData.eqv z .none) = os.any isN := by
  rw [List.any_map]
  refine congrArg (fun f => os.any f) (funext fun o => ?_)
  cases o <;> simp [optD, isN, PyData.eqv]
theorem lay_optD : ∀ os : List (Option (Nat × Nat)), PyData.canLayAll0 (os.map optD) = true
  | [] => by simp [PyData.canLayAll0]
  | o :: os => by
    have := lay_optD os
    cases o <;> simp [optD, PyData.canLayAll0, PyData.canLay0, this]
theorem shaped_optD (os : List (Option (Nat × Nat))) : SeqAt.shaped (.list (os.map optD)) = true :=
  shaped_of (n := 2) (by rw [PyData.canLay0]; exact lay_optD os) (by rw [PyData.depth]; have := depth_all (n := 1) (f := optD) (fun o => by cases o <;> simp [optD, PyData.depth, PyData.depthAll]) os; omega) (by decide)
theorem shaped_none : SeqAt.shaped .none = true := shaped_of (n := 0) (by simp [PyData.canLay0]) (by simp [PyData.depth]) (by decide)
/-- a told pair, or none -/
def OptAt (H0 H : Hp) (v : V) : Option (Nat × Nat) → Prop
  | none => v = .non
  | some p => ∃ t, v = .ref t ∧ H t = some (.tup [.int (p.1 : Nat), .int (p.2 : Nat)]) ∧ H0 t = none
theorem OptAt.same {H0 H H' : Hp} {v : V} : ∀ {o : Option (Nat × Nat)}, OptAt H0 H v o → Same H H' → OptAt H0 H' v o
  | none, h, _ => h
  | some p, ⟨t, h1, h2, h3⟩, s => ⟨t, h1, s _ _ h2, h3⟩
theorem OptAt.put {H0 H : Hp} {v : V} {D : Addr} {xs : List V} {u : HO} (hD : H D = some (.lst xs)) : ∀ {o : Option (Nat × Nat)}, OptAt H0 H v o → OptAt H0 (L2.upd H D u) v o
  | none, h => h
  | some p, ⟨t, h1, h2, h3⟩ => ⟨t, h1, by rw [upd_ne (ne_of h2 hD fun z => nomatch z)]; exact h2, h3⟩
theorem dpAll_opt {K : PySem.W.Frag} {H0 H : Hp} : ∀ {vs : List V} {os : List (Option (Nat × Nat))}, vs.length = os.length → (∀ (i : Nat) (v : V) (o : Option (Nat × Nat)), vs[i]? = some v → os[i]? = some o → OptAt H0 H v o) → DpAll K H vs (os.map optD)
  | [], [], _, _ => .nil
  | v :: vs, o :: os, hl, h => by
    have h0 := h 0 v o rfl rfl
    have ih := dpAll_opt (K := K) (H0 := H0) (H := H) (vs := vs) (os := os) (by simpa using hl) fun i v' o' h1 h2 => h (i + 1) v' o' h1 h2
    cases o with
    | none => obtain rfl : v = .non := h0; exact .cons .non ih
    | some p =>
      obtain ⟨t, rfl, h2, _⟩ := h0
      exact .cons (.tup (SqT.of h2) (.cons (.int _) (.cons (.int _) .nil))) ih
def lastW (ws : List (List Nat)) : List Nat := ws.getLastD []
def someP (n : Nat) (w : List Nat) : Bool := (pairW n w).isSome
def stateW (m n : Nat) (ws : List (List Nat)) : Option (List (Nat × Nat) × Nat) :=
  if ws.length = m + 1 ∧ (lastW ws).head? = some 46 ∧ ws.dropLast.all (someP n) = true ∧ (numW (lastW ws).tail).isSome = true then some (ws.dropLast.map (fun w => (pairW n w).getD (0, 0)), (numW (lastW ws).tail).getD 0) else none
theorem any_isN (n : Nat) (A : List (List Nat)) : (A.map (pairW n)).any isN = !A.all (someP n) := by
  induction A with
  | nil => rfl
  | cons a A ih =>
    rw [List.map_cons, List.any_cons, List.all_cons, ih, Bool.not_and]
    congr 1
    unfold isN someP
    cases pairW n a <;> rfl
/-- a list of pairs -/
def RowAt (H : Hp) (a : Addr) (ps : List (Nat × Nat)) : Prop := ∃ ts : List Addr, H a = some (.lst (ts.map V.ref)) ∧ Forall2 (fun (t : Addr) (p : Nat × Nat) => H t = some (.tup [.int (p.1 : Nat), .int (p.2 : Nat)])) ts ps
section
variable {P : Program} {w : World} {K : PySem.W.Frag} {mg : Str → Option Value} {base : Heap}
def spReadSt (K : PySem.W.Frag) : Sp := fun vs H Q _ => ∃ (r : Addr) (ws : List (List Nat)) (m n : Nat), vs = [.ref r, .int m, .int n] ∧ H r = some (.lst (ws.map wordV)) ∧ ws.length ≤ 700 ∧ (∀ w ∈ ws, w.length ≤ 600 ∧ w ≠ []) ∧
  (stateW m n ws = none → ∀ H', Same H H' → Q .non H') ∧ (∀ ps e, stateW m n ws = some (ps, e) → ∀ t D H', Same H H' → H D = none → H' t = some (.tup [.ref D, .int (e : Nat)]) → RowAt H' D ps → Q (.ref t) H')
structure TxtRS (K : PySem.W.Frag) (mg : Str → Option Value) (fRN fRP : Addr) : Prop where
  len : mg "len" = none
  mread_number : mg "read_number" = some (.ref fRN)
  kread_number : PySem.W.keepIn K (.ref fRN) = true
  mread_pair : mg "read_pair" = some (.ref fRP)
  kread_pair : PySem.W.keepIn K (.ref fRP) = true
abbrev s_read_state : Stmt := top 15
abbrev N_read_state : List Str := ["words", "values", "states", "pairs", "end", "word"]
abbrev P_read_state : List Str := ["words", "values", "states"]
theorem sc_read_state : FnScope N_read_state P_read_state (defScope s_read_state) := ⟨rfl, rfl, rfl, by decide +kernel, rfl, by decide +kernel, by decide +kernel⟩

theorem ok_readSt {f fRN fRP : Addr} {fd fdRN fdRP : FuncData} (F : Fun K "read_state" "read_state" s_read_state f fd) (T : TxtRS K mg fRN fRP) (Gread_number : FnOk P w K mg base CX0 1 fRN fdRN P_read_number spReadN) (bread_number : Binds K fdRN P_read_number [])
    (Gread_pair : FnOk P w K mg base CX0 2 fRP fdRP P_read_pair spReadP) (bread_pair : Binds K fdRP P_read_pair []) : FnOk P w K mg base CX0 3 f fd P_read_state (spReadSt K) := by
  refine F.ok sc_read_state (fun vs H Q E h => ?_) (fun cdv A outer s H vs Q E hr h => ?_)
  · obtain ⟨r, ws, m, n, rfl, _⟩ := h
    rfl
  · obtain ⟨r, ws, m, n, rfl, hr0, hl, hw, k0, k1⟩ := h
    have hu := hu_of hr
    refine ⟨_, (pss_cons (ps_if (PW.pt (pw_or (pt_cmpR op_ne (pe_callB call_len (by rfl) T.len PySem.boot_len (pa_cons (pv 0) pa_nil)) (pe_op op_add (pv 1) pe_int) (nomark _)) (pw_or1 (pt_cmpR op_ne (pe_ix ix_str (pe_ix ix_list (pv 0) (pe_un un_neg pe_int) (fun _ _ => rfl)) pe_int (fun _ _ => rfl)) pe_str (nomark _))))) (pss_one (ps_ret pe_non)) pss_nil)
      (pss_cons (ps_setLc (i := 3) (own := [("word", 5)]) (g := gName 5) (by rfl) sc_read_state.nd rfl rfl (sw_true rfl rfl rfl (by decide +kernel)) (pi_seq (K := K) rfl (pe_slice sl_list (pv 0) po_none (po_some (pe_un un_neg pe_int)))) (blkOk_by (own := [("word", 5)]) (N := N_read_state) (sc := defScope s_read_state) (by decide +kernel)) (fun _ _ _ _ _ => pg_name (i := 5) sc_read_state.nd rfl (Or.inl rfl)) (fun _ _ _ _ _ => pts_nil) (fun _ _ _ _ _ => (pe_call Gread_pair (hr.mono (by decide)) (by rfl) T.mread_pair T.kread_pair bread_pair .nil pass0 (pa_cons (pv 5) (pa_cons (pv 2) pa_nil)))))
      (pss_cons (ps_set (i := 4) sc_read_state.nd rfl (Or.inl rfl) (pe_call Gread_number (hr.mono (by decide)) (by rfl) T.mread_number T.kread_number bread_number .nil pass0 (pa_cons (pe_slice sl_str (pe_ix ix_list (pv 0) (pe_un un_neg pe_int) (fun _ _ => rfl)) (po_some pe_int) po_none) pa_nil)))
      (pss_cons (ps_if (PW.pt (pw_or (pt_cmpR (op_inD (hu65 hr)) pe_non (pv 3) (by rfl)) (pw_or1 (pt_cmpR op_isN (pv 4) pe_non (nomark _))))) (pss_one (ps_ret pe_non)) pss_nil)
      (pss_one (ps_ret (pe_tup (pa_cons (pv 3) (pa_cons (pv 4) pa_nil))))))))), ?_⟩
    refine ⟨_, rfl, _, _, rfl, Or.inl ⟨_, SqL.of hr0, rfl⟩, _, rfl, _, _, rfl, rfl, rfl, _, rfl, ?_⟩
    by_cases hlen : ws.length = m + 1
    · refine ite2 (fun c => absurd c (by rw [List.length_map]; simp; omega)) (fun _ => ?_)
      obtain ⟨A', u, rfl⟩ : ∃ A' u, ws = A' ++ [u] := by
        cases ws with
        | nil => cases hlen
        | cons p l => exact ⟨(p :: l).dropLast, (p :: l).getLast (List.cons_ne_nil _ _), (List.dropLast_concat_getLast _).symm⟩
      obtain ⟨hul, hun⟩ := hw u (List.mem_append_right _ List.mem_cons_self)
      obtain ⟨c0, u', rfl⟩ : ∃ c0 u', u = c0 :: u' := by
        cases u with
        | nil => exact absurd rfl hun
        | cons a b => exact ⟨a, b, rfl⟩
      have elast : lastW (A' ++ [c0 :: u']) = c0 :: u' := by unfold lastW; rw [List.getLastD_eq_getLast?, List.getLast?_concat]; rfl
      have edrop : (A' ++ [c0 :: u']).dropLast = A' := List.dropLast_concat
      unfold stateW at k0 k1
      rw [elast, edrop] at k0 k1
      have hus : (mkS (c0 :: u')).length ≤ sizeLine := Nat.le_of_lt (small1000 (by rw [TL.len_tl, tl_mkS]; omega))
      have e46 : (sg c0 = ".") ↔ c0 = 46 := ⟨fun q => sg_inj (q : sg c0 = sg 46), fun q => by rw [q]; rfl⟩
      have hAl : A'.length = m := by simpa using hlen
      have hA'l : A'.length ≤ 700 := by rw [List.length_append] at hl; omega
      have hcut : cutV ((A' ++ [c0 :: u']).map wordV) none (some (-1)) = A'.map wordV := by rw [List.map_append]; exact cut_last
      refine ⟨_, rfl, _, rfl, r, _, -1, wordV (c0 :: u'), rfl, rfl, SqL.of hr0, by rw [List.map_append]; exact atI_last _ _, mkS (c0 :: u'), 0, c0, rfl, rfl, hus, at_of' (show (0 : Int) = ((0 : Nat) : Int) from rfl) (by show (TL.tl (mkS (c0 :: u')))[0]? = some c0; rw [tl_mkS]; rfl), rfl, _, rfl, ?_⟩
      by_cases hc : c0 = 46
      · refine ite2 (fun c => absurd c (by rw [show ({ cps := #[c0] } : Str) = "." from e46.mpr hc]; simp)) (fun _ => ?_)
        refine ⟨_, rfl, _, rfl, _, rfl, r, _, rfl, SqL.of hr0, fun L hL => ?_⟩
        rw [hcut]
        have s1 : Same H (L2.upd H L (.lst (A'.map wordV))) := same_new hL
        have hL1 : (L2.upd H L (.lst (A'.map wordV))) L = some (.lst (A'.map wordV)) := upd_same
        generalize L2.upd H L (.lst (A'.map wordV)) = H1 at s1 hL1 ⊢
        refine ⟨L, _, rfl, Or.inl (SqL.of hL1), fun J hJ D hD => lc_it hJ (fun j H2 => ∃ vs : List V, H2 D = some (.lst vs) ∧ Forall2 (OptAt H H2) vs ((A'.take j).map (pairW n)) ∧ Same H1 H2) ⟨[], upd_same, ⟨rfl, fun i x y e1 e2 => nomatch e1⟩, same_new hD⟩ (fun j H2 _ ⟨_, _, _, s2⟩ => GSq.same s2) ?_ ?_⟩
        · rintro j x H3 H2 hj ⟨vs, hD2, hf, s2⟩ ⟨rfl, hx⟩
          rw [List.length_map] at hj
          obtain rfl : V.str (mkS A'[j]) = x := by
            rw [List.getElem?_map, List.getElem?_eq_getElem hj] at hx
            exact Option.some.inj hx
          obtain ⟨hwl, _⟩ := hw A'[j] (List.mem_append_left _ (List.getElem_mem hj))
          have hvl : vs.length = j := by rw [hf.1, List.length_map, List.length_take]; omega
          have fin : ∀ (v : V) (H3 : Hp), Same H2 H3 → OptAt H H3 v (pairW n A'[j]) → ∃ acc, H3 D = some (.lst acc) ∧ acc.length < sizeLine ∧ ∃ vs : List V, (L2.upd H3 D (.lst (acc ++ [v]))) D = some (.lst vs) ∧ Forall2 (OptAt H (L2.upd H3 D (.lst (acc ++ [v])))) vs ((A'.take (j + 1)).map (pairW n)) ∧ Same H1 (L2.upd H3 D (.lst (acc ++ [v]))) := fun v H3 s3 ho => by
            have hD3 := s3 _ _ hD2
            refine ⟨_, hD3, small1000 (by omega), vs ++ [v], upd_same, ?_, (s2.trans s3).put hD⟩
            rw [take_more hj, List.map_append]
            exact Forall2.snoc (hf.imp fun x y _ h => (h.same s3).put hD3) (ho.put hD3)
          refine ⟨rfl, ?_⟩
          refine lcYes ?_
          refine ⟨_, rfl, _, rfl, mkS A'[j], n, rfl, by rw [TL.len_tl, tl_mkS]; exact hwl, fun hno H3 s3 => ?_, fun g b hgb t H3 s3 htn ht => ?_⟩
          · rw [tl_mkS] at hno
            exact fin .non H3 s3 (by rw [hno]; rfl)
          · rw [tl_mkS] at hgb
            exact fin (.ref t) H3 s3 (by rw [hgb]; exact ⟨t, rfl, ht, (s1.trans s2).free htn⟩)
        · rintro H2 ⟨vs, hD2, hf, s2⟩
          rw [List.length_map, List.take_length] at hf
          have s02 := s1.trans s2
          have hr2 := s02 _ _ hr0
          refine ⟨_, rfl, _, rfl, r, _, -1, wordV (c0 :: u'), rfl, rfl, SqL.of hr2, by rw [List.map_append]; exact atI_last _ _, _, rfl, mkS (c0 :: u'), rfl, hus, cutS (mkS (c0 :: u')) (some 1) none, rfl, ?_, fun H3 s3 => ?_⟩
          · have := cut_from_len (z := mkS (c0 :: u')) (j := 1)
            rw [TL.len_tl (mkS _), tl_mkS] at this
            exact Nat.le_trans this (by omega)
          rw [show (1 : Int) = ((1 : Nat) : Int) from rfl, cut_from (by rw [TL.len_tl, tl_mkS]; exact Nat.succ_pos _), tl_mkS, List.drop_one, List.tail_cons]
          have s03 := s02.trans s3
          have hD3 := s3 _ _ hD2
          have hf3 := hf.imp fun x y _ h => h.same s3
          have hdp : Dp K H3 (.ref D) (.list ((A'.map (pairW n)).map optD)) := .lst (SqL.of hD3) (dpAll_opt hf3.1 fun i v o h1 h2 => hf3.2 i v o h1 h2)
          refine ⟨_, rfl, .none, _, .non, hdp, shaped_none, shaped_optD _, _, rfl, ?_⟩
          rw [any_optD, any_isN]
          by_cases hall : A'.all (someP n) = true
          · refine ite2 (fun c => absurd c ?_) (fun _ => ?_)
            · rw [hall]; decide
            refine ⟨_, rfl, rfl, _, rfl, ?_⟩
            cases hnu : numW u' with
            | none =>
              have k0 := k0 (if_neg fun q => by rw [List.tail_cons, hnu] at q; cases q.2.2.2) H3 s03
              exact ite2 (fun _ => k0) (fun c => absurd (by simp [numV]) c)
            | some e =>
              refine ite2 (fun c => absurd c (by simp [numV])) (fun _ => ?_)
              refine ⟨_, rfl, _, rfl, by show 2 ≤ sizeLine; decide, fun t ht => ?_⟩
              have sT := same_new (o := .tup [.ref D, .int ((e : Nat) : Int)]) ht
              refine k1 (A'.map fun w => (pairW n w).getD (0, 0)) e ?_ t D _ (s03.trans sT) (s1.free hD) upd_same ?_
              · rw [List.tail_cons, hnu]
                exact if_pos ⟨hlen, by rw [hc]; rfl, hall, rfl⟩
              · have key : ∀ (vs : List V) (B : List (List Nat)), B.all (someP n) = true → Forall2 (OptAt H H3) vs (B.map (pairW n)) → ∃ ts : List Addr, vs = ts.map V.ref ∧ Forall2 (fun (t : Addr) (p : Nat × Nat) => H3 t = some (.tup [.int (p.1 : Nat), .int (p.2 : Nat)])) ts (B.map fun w => (pairW n w).getD (0, 0)) := by
                  intro vs B
                  induction B generalizing vs with
                  | nil =>
                    intro _ h
                    obtain rfl : vs = [] := List.eq_nil_of_length_eq_zero h.1
                    exact ⟨[], rfl, rfl, fun i x y e1 e2 => nomatch e1⟩
                  | cons b B ih =>
                    intro ha h
                    rw [List.all_cons, Bool.and_eq_true] at ha
                    cases vs with
                    | nil => cases h.1
                    | cons v vs =>
                      have h0 : OptAt H H3 v (pairW n b) := h.2 0 v _ rfl rfl
                      obtain ⟨ts, rfl, hts⟩ := ih vs ha.2 ⟨by have := h.1; simpa using this, fun i x y e1 e2 => h.2 (i + 1) x y e1 e2⟩
                      have h1 := ha.1
                      unfold someP at h1
                      cases e : pairW n b with
                      | none => rw [e] at h1; cases h1
                      | some p =>
                        rw [e] at h0
                        obtain ⟨t, rfl, ht, _⟩ := h0
                        refine ⟨t :: ts, rfl, by rw [List.length_cons, List.map_cons, List.length_cons, hts.1], fun i x y e1 e2 => ?_⟩
                        cases i with
                        | zero =>
                          have e1 : t = x := Option.some.inj e1
                          subst e1
                          have e2 : (pairW n b).getD (0, 0) = y := Option.some.inj e2
                          rw [e] at e2
                          have e2 : p = y := e2
                          subst e2
                          exact ht
                        | succ i => exact hts.2 i x y e1 e2
                obtain ⟨ts, rfl, hts⟩ := key vs A' hall hf3
                exact ⟨ts, sT _ _ hD3, hts.imp fun x y _ h => sT _ _ h⟩
          · refine ite2 (fun _ => ?_) (fun c => absurd ?_ c)
            · exact k0 (if_neg fun q => hall q.2.2.1) H3 s03
            · simpa using hall
      · refine ite2 (fun _ => ?_) (fun c => absurd (by simp; exact fun q => hc (e46.mp q)) c)
        refine k0 (if_neg fun q => hc ?_) _ (Same.refl H)
        have := q.2.1
        simpa using this
    · refine ite2 (fun _ => ?_) (fun c => absurd (by rw [List.length_map]; simp; omega) c)
      refine k0 ?_ _ (Same.refl H)
      unfold stateW
      exact if_neg fun q => hlen q.1
end
end Vf
set_option Elab.async false
set_option linter.all false
set_option maxRecDepth 100000
set_option maxHeartbeats 4000000
namespace Vf
open PySem L2 PyProof.Rows
def GoodC (m : Nat) (rs : List Row) (es : List Int) : Prop := es.length = rs.length ∧ 0 < rs.length ∧ ∀ r ∈ rs, r.length = m ∧ ∀ gb ∈ r, 0 ≤ gb.1 ∧ gb.1 < (rs.length : Nat)
theorem GoodC.bad {m : Nat} {rs : List Row} {es : List Int} (h : GoodC m rs es) (j : Nat) (hj : j < rs.length) : ¬ badRow m rs.length es.length j rs[j] := by
  obtain ⟨h1, h2, h3⟩ := h
  obtain ⟨r1, r2⟩ := h3 _ (List.getElem_mem hj)
  rintro (q | q | ⟨gb, hgb, q⟩)
  · exact q r1
  · omega
  · exact q (r2 gb hgb)
theorem GoodC.ok {m : Nat} {rs : List Row} {es : List Int} (h : GoodC m rs es) : AllOk m rs es := ⟨fun j hj => h.bad j hj, h.2.1, by have := h.1; omega⟩
theorem GoodC.notBad {m : Nat} {rs : List Row} {es : List Int} (h : GoodC m rs es) (i : Nat) : ¬ BadAt m rs es i := by
  rintro (⟨hi, hb, _⟩ | ⟨_, _, h0⟩)
  · exact h.bad i hi hb
  · have := h.1
    have := h.2.1
    omega
/-- Code(..) of right data -/
theorem mk_okC {K : PySem.W.Frag} {C CB : Addr} {H : Hp} {z : Str} {R Ev : V} {rs : List Row} {es : List Int} {S : VK} {E : XK} {x dx : Addr} (hx : H x = none) (hdx : H dx = none) (ne : dx ≠ x) (hR : Rws K H R rs) (hE : Ens K H Ev es) (good : GoodC z.length rs es) (hz : z.length ≤ 26) (hl : rs.length ≤ 100)
    (k : ∀ H', Same H H' → CodeAt K C H' x z rs es → S .non H') : spInit K C CB (.ref x :: ([.str z, R, Ev] ++ [])) (L2.upd (L2.upd H dx (.own x)) x (.ins C dx [])) S E := by
  have hx' : (L2.upd H dx (.own x)) x = none := by rw [upd_ne ne.symm]; exact hx
  have s0 : Same H (L2.upd (L2.upd H dx (.own x)) x (.ins C dx [])) := (same_new hdx).trans (same_new hx')
  refine ⟨x, dx, z, R, Ev, rs, es, rfl, upd_same, hR.mv (Kl.same s0), hE.mv (Kl.same s0), hz, hl, by rw [good.1]; exact hl, fun r hr => ?_, fun _ H' hC hk => k H' (fun b u e => hk b u (s0 _ _ e) (ne_of_none e hx)) hC, fun i hb => absurd hb (good.notBad i)⟩
  have := (good.2.2 r hr).1
  omega
def rowN (ps : List (Nat × Nat)) : Row := ps.map fun p => (((p.1 : Nat) : Int), ((p.2 : Nat) : Int))
theorem RowAt.move {H H' : Hp} {a p : Addr} {ps : List (Nat × Nat)} {xs : List V} (h : RowAt H a ps) (k : ∀ b u, H b = some u → b ≠ p → H' b = some u) (hp : H p = some (.lst xs)) (n : a ≠ p) : RowAt H' a ps := by
  obtain ⟨ts, h1, h2⟩ := h
  exact ⟨ts, k _ _ h1 n, h2.imp fun x y _ e => k _ _ e (ne_of e hp fun z => nomatch z)⟩
theorem RowAt.same {H H' : Hp} {a : Addr} {ps : List (Nat × Nat)} (h : RowAt H a ps) (s : Same H H') : RowAt H' a ps := by
  obtain ⟨ts, h1, h2⟩ := h
  exact ⟨ts, s _ _ h1, h2.imp fun x y _ e => s _ _ e⟩
theorem dpAll_pairs {K : PySem.W.Frag} {H : Hp} : ∀ {ts : List Addr} {ps : List (Nat × Nat)}, ts.length = ps.length → (∀ (i : Nat) (t : Addr) (p : Nat × Nat), ts[i]? = some t → ps[i]? = some p → H t = some (.tup [.int (p.1 : Nat), .int (p.2 : Nat)])) → DpAll K H (ts.map V.ref) ((rowN ps).map tupD)
  | [], [], _, _ => .nil
  | t :: ts, p :: ps, hl, h => .cons (.tup (SqT.of (h 0 t p rfl rfl)) (.cons (.int _) (.cons (.int _) .nil))) (dpAll_pairs (by simpa using hl) fun i t' p' h1 h2 => h (i + 1) t' p' h1 h2)
theorem RowAt.dp {K : PySem.W.Frag} {H : Hp} {a : Addr} {ps : List (Nat × Nat)} (h : RowAt H a ps) : Dp K H (.ref a) (rowD (rowN ps)) := by
  obtain ⟨ts, h1, h2⟩ := h
  exact .lst (SqL.of h1) (dpAll_pairs h2.1 h2.2)
theorem dpAll_rows {K : PySem.W.Frag} {H : Hp} : ∀ {as : List Addr} {pss : List (List (Nat × Nat))}, as.length = pss.length → (∀ (i : Nat) (a : Addr) (ps : List (Nat × Nat)), as[i]? = some a → pss[i]? = some ps → RowAt H a ps) → DpAll K H (as.map V.ref) ((pss.map rowN).map rowD)
  | [], [], _, _ => .nil
  | a :: as, ps :: pss, hl, h => .cons (h 0 a ps rfl rfl).dp (dpAll_rows (by simpa using hl) fun i a' p' h1 h2 => h (i + 1) a' p' h1 h2)
def psOf (m n : Nat) (ws : List (List Nat)) : List (Nat × Nat) := ((stateW m n ws).map (·.1)).getD []
def enOf (m n : Nat) (ws : List (List Nat)) : Int := (((stateW m n ws).map (·.2)).getD 0 : Nat)
inductive COut where
  | bad (i : Nat)
  | code (z : List Nat) (rs : List Row) (es : List Int)
def readC (t : List Nat) : COut := match headZ (TL.tl "code") (textL t) with
  | none => .bad 1
  | some z => if (textL t).length < 2 then .bad 2 else match (textL t).tail.findIdx? fun ws => (stateW z.length (textL t).tail.length ws).isNone with
    | some j => .bad (j + 2)
    | none => .code z (((textL t).tail.map (psOf z.length (textL t).tail.length)).map rowN) ((textL t).tail.map (enOf z.length (textL t).tail.length))
theorem pairW_lt {n : Nat} {w : List Nat} {p : Nat × Nat} (h : pairW n w = some p) : p.1 < n := by
  unfold pairW at h
  split at h
  · unfold pairN at h
    split at h
    · split at h
      · rename_i hlt
        cases h
        exact hlt
      · cases h
    · cases h
  · cases h
theorem stateW_good {m n : Nat} {ws : List (List Nat)} {ps : List (Nat × Nat)} {e : Nat} (h : stateW m n ws = some (ps, e)) : ps.length = m ∧ ∀ p ∈ ps, p.1 < n := by
  unfold stateW at h
  split at h
  · rename_i hc
    obtain ⟨c1, c2, c3, c4⟩ := hc
    cases h
    refine ⟨by rw [List.length_map, List.length_dropLast]; omega, fun p hp => ?_⟩
    obtain ⟨w, hw, rfl⟩ := List.mem_map.mp hp
    have := List.all_eq_true.mp c3 w hw
    unfold someP at this
    cases e : pairW n w with
    | none => rw [e] at this; cases this
    | some q => exact pairW_lt e
  · cases h
theorem textL_small {t : List Nat} (h : t.length ≤ 600) : ∀ W ∈ textL t, W.length ≤ 700 ∧ ∀ u ∈ W, u.length ≤ 600 ∧ u ≠ [] := fun W hW => by
  obtain ⟨l, hl, rfl⟩ := List.mem_map.mp hW
  have h1 := spl_len [10] 0 [] t l hl
  rw [List.length_nil] at h1
  refine ⟨?_, fun u hu => ?_⟩
  · have h2 := PyProof.Rows.split_le (mkS l) " "
    rw [split_sp, List.length_map, tl_mkS] at h2
    have h3 := List.length_filter_le (fun w => decide (w ≠ [])) (TL.spl [32] 0 [] l)
    have h4 : (mkS l).length = l.length := by rw [TL.len_tl, tl_mkS]
    show ((TL.spl [32] 0 [] l).filter fun w => decide (w ≠ [])).length ≤ 700
    omega
  · have h2 := spl_len [32] 0 [] l u (List.mem_filter.mp hu).1
    rw [List.length_nil] at h2
    exact ⟨by omega, of_decide_eq_true (List.mem_filter.mp hu).2⟩
theorem goodC_of {L : List (List (List Nat))} {m : Nat} (hp : 0 < L.length) (h : ∀ ws ∈ L, (stateW m L.length ws).isNone = false) : GoodC m ((L.map (psOf m L.length)).map rowN) (L.map (enOf m L.length)) := by
  refine ⟨by rw [List.length_map, List.length_map, List.length_map], by rw [List.length_map, List.length_map]; exact hp, fun r hr => ?_⟩
  rw [List.length_map, List.length_map]
  obtain ⟨ps, hps, rfl⟩ := List.mem_map.mp hr
  obtain ⟨ws, hws, rfl⟩ := List.mem_map.mp hps
  have := h ws hws
  cases e : stateW m L.length ws with
  | none => rw [e] at this; cases this
  | some q =>
    obtain ⟨ps, en⟩ := q
    obtain ⟨h1, h2⟩ := stateW_good e
    have e2 : psOf m L.length ws = ps := by unfold psOf; rw [e]; rfl
    rw [e2]
    unfold rowN
    refine ⟨by rw [List.length_map]; exact h1, fun gb hgb => ?_⟩
    obtain ⟨p, hp, rfl⟩ := List.mem_map.mp hgb
    have := h2 p hp
    exact ⟨Int.natCast_nonneg _, by show ((p.1 : Nat) : Int) < _; omega⟩
structure TxtRd (K : PySem.W.Frag) (mg : Str → Option Value) (B CT fT fRL fRS : Addr) : Prop where
  base : BaseT K mg "CodeError" B
  bt : ErrT K mg "BadText" "line" CT fT
  len : mg "len" = none
  enumerate : mg "enumerate" = none
  mread_lines : mg "read_lines" = some (.ref fRL)
  kread_lines : PySem.W.keepIn K (.ref fRL) = true
  mread_state : mg "read_state" = some (.ref fRS)
  kread_state : PySem.W.keepIn K (.ref fRS) = true
section
variable {P : Program} {w : World} {K : PySem.W.Frag} {mg : Str → Option Value} {base : Heap}
def spRead (K : PySem.W.Frag) (C CT : Addr) : Sp := fun vs H Q E => ∃ text : Str, vs = [.ref C, .str text] ∧ text.length ≤ 600 ∧ (textL (TL.tl text)).length ≤ 60 ∧
  (∀ i, readC (TL.tl text) = .bad i → EBT CT H E (i : Int)) ∧ (∀ z rs es, readC (TL.tl text) = .code z rs es → ∀ o H', Same H H' → CodeAt K C H' o (mkS z) rs es → Q (.ref o) H')
abbrev s_Code_read : Stmt := inClass (top 13) 4
abbrev N_Code_read : List Str := ["cls", "text", "letters", "lines", "rows", "ends", "line", "words", "told"]
abbrev P_Code_read : List Str := ["cls", "text"]
theorem sc_Code_read : FnScope N_Code_read P_Code_read (defScope s_Code_read) := ⟨rfl, rfl, rfl, by decide +kernel, rfl, by decide +kernel, by decide +kernel⟩

theorem ok_read {f fI C CB B CT fT fRL fRS : Addr} {fd fdI fdT fdRL fdRS : FuncData} (F : Fun K "read" "Code.read" s_Code_read f fd) (T : TxtRd K mg B CT fT fRL fRS) (FT : Fun K "__init__" "BadText.__init__" s_BadText___init__ fT fdT) (bT' : Binds K fdT P_BadText___init__ [])
    (Gread_lines : FnOk P w K mg base (L2.CX P w) 4 fRL fdRL P_read_lines (spReadL K CT)) (bread_lines : Binds K fdRL P_read_lines []) (Gread_state : FnOk P w K mg base CX0 3 fRS fdRS P_read_state (spReadSt K)) (bread_state : Binds K fdRS P_read_state [])
    (MCode : Mk K C fI) (GCode : FnOk P w K mg base (L2.CX P w) 4 fI fdI P_Code___init__ (spInit K C CB)) (bCode : Binds K fdI P_Code___init__ []) : FnOk P w K mg base (L2.CX P w) 6 f fd P_Code_read (spRead K C CT) := by
  have GT' : FnOk P w K mg base CX0 1 fT fdT P_BadText___init__ (spErr CT "line") := ok_bt FT T.base T.bt
  refine F.okX sc_Code_read (fun vs H Q E h => ?_) (fun cdv A outer s H vs Q E hr h => ?_)
  · obtain ⟨text, rfl, _⟩ := h
    rfl
  · obtain ⟨text, rfl, hl, hl60, kb, ks⟩ := h
    have hu := hu_of hr
    have passL : Passes (L2.CX P w) (cxOf (L2.CX P w) P w K mg base N_Code_read "Code.read" (defScope s_Code_read) f cdv A outer s H E) E := passes_call (takes_of rfl rfl rfl rfl) (fun _ _ _ _ h => h)
    refine ⟨_, (pss_cons (ps_asg (pe_call Gread_lines (hr.mono (by decide)) (by rfl) T.mread_lines T.kread_lines bread_lines .nil passL (pa_cons pe_str (pa_cons (pv 1) pa_nil))) (pg_tup (by rfl) (pgs_cons (pg_name (i := 2) sc_Code_read.nd rfl (Or.inl rfl)) (pgs_cons (pg_name (i := 3) sc_Code_read.nd rfl (Or.inl rfl)) pgs_nil))))
      (pss_cons (ps_set (i := 4) sc_Code_read.nd rfl (Or.inl rfl) (pe_lst pa_nil))
      (pss_cons (ps_set (i := 5) sc_Code_read.nd rfl (Or.inl rfl) (pe_lst pa_nil))
      (pss_cons (ps_for (passes_of rfl) rfl (pi_enumN (n := 2) (by decide) (by rfl) T.enumerate (pa_cons (pv 3) pa_nil) (pk_cons pe_int pk_nil)) (pg_tup (by rfl) (pgs_cons (pg_name (i := 6) sc_Code_read.nd rfl (Or.inl rfl)) (pgs_cons (pg_name (i := 7) sc_Code_read.nd rfl (Or.inl rfl)) pgs_nil))) (pss_cons (ps_set (i := 8) sc_Code_read.nd rfl (Or.inl rfl) (pe_call Gread_state (hr.mono (by decide)) (by rfl) T.mread_state T.kread_state bread_state .nil pass0 (pa_cons (pv 7) (pa_cons (pe_callB call_len (by rfl) T.len PySem.boot_len (pa_cons (pv 2) pa_nil)) (pa_cons (pe_callB call_len (by rfl) T.len PySem.boot_len (pa_cons (pv 3) pa_nil)) pa_nil)))))
      (pss_cons (ps_if (pt_cmpR op_isN (pv 8) pe_non (nomark _)) (pss_one (ps_raise rfl (takes_of rfl rfl rfl rfl) (pmk_oex T.bt.oex T.bt.iC T.bt.tI GT' (hr.mono (by decide)) bT' .nil pass0 (by rfl) T.bt.g (pa_cons (pv 6) pa_nil)))) pss_nil)
      (pss_cons (ps_expr (pe_bm PySem.F.plainAttrs_list PySem.F.slot_list_append PySem.F.type_list_append mt_append (pv 4) (pa_cons (pe_ix ix_tup (pv 8) pe_int (fun _ _ => rfl)) pa_nil)))
      (pss_one (ps_expr (pe_bm PySem.F.plainAttrs_list PySem.F.slot_list_append PySem.F.type_list_append mt_append (pv 5) (pa_cons (pe_ix ix_tup (pv 8) pe_int (fun _ _ => rfl)) pa_nil))))))))
      (pss_one (ps_ret (pe_makeC (i := 0) MCode GCode (hr.mono (by decide)) rfl (Or.inl rfl) bCode .nil passL (pa_cons (pv 2) (pa_cons (pv 4) (pa_cons (pv 5) pa_nil)))))))))), ?_⟩
    have hsm := textL_small (t := TL.tl text) (by rw [← TL.len_tl]; exact hl)
    refine ⟨_, rfl, "code", text, rfl, hl, fun z hz h2 tt r H1 s1 htt hW => ?_, fun h => kb 1 (by unfold readC; rw [h]), fun z hz h2 => kb 2 (by unfold readC; rw [hz]; exact if_pos h2)⟩
    have hrd : readC (TL.tl text) = match (textL (TL.tl text)).tail.findIdx? fun ws => (stateW z.length (textL (TL.tl text)).tail.length ws).isNone with
        | some j => .bad (j + 2)
        | none => .code z (((textL (TL.tl text)).tail.map (psOf z.length (textL (TL.tl text)).tail.length)).map rowN) ((textL (TL.tl text)).tail.map (enOf z.length (textL (TL.tl text)).tail.length)) := by
      unfold readC
      rw [hz]
      exact if_neg (by omega)
    have hsm' : ∀ W ∈ (textL (TL.tl text)).tail, W.length ≤ 700 ∧ ∀ u ∈ W, u.length ≤ 600 ∧ u ≠ [] := fun W hW => hsm W (List.mem_of_mem_tail hW)
    have hLl : (textL (TL.tl text)).tail.length ≤ 60 ∧ 0 < (textL (TL.tl text)).tail.length := by rw [List.length_tail]; omega
    have hzk : okZ z = true := by
      unfold headZ at hz
      split at hz
      · split at hz
        · rename_i hc
          cases hz
          exact hc.2
        · cases hz
      · cases hz
    generalize (textL (TL.tl text)).tail = L at hrd hsm' hLl hW
    clear hsm
    have hzl : z.length ≤ 3 := by
      unfold okZ at hzk
      rw [Bool.and_eq_true, Bool.and_eq_true, decide_eq_true_eq, decide_eq_true_eq] at hzk
      exact hzk.1.2
    have hml : (mkS z).length = z.length := by rw [TL.len_tl, tl_mkS]
    obtain ⟨rs, hr, hf⟩ := hW
    have hrl : rs.length = L.length := hf.1
    refine ⟨tt, _, rfl, SqT.of htt, rfl, _, _, rfl, _, _, rfl, rfl, by show 0 ≤ sizeLine; decide, fun D hD => ⟨by show 0 ≤ sizeLine; decide, fun G hG => ?_⟩⟩
    have s2 : Same H1 (L2.upd (L2.upd H1 D (.lst [])) G (.lst [])) := (same_new hD).trans (same_new hG)
    have hD2 : (L2.upd (L2.upd H1 D (.lst [])) G (.lst [])) D = some (.lst []) := same_new hG _ _ upd_same
    have hG2 : (L2.upd (L2.upd H1 D (.lst [])) G (.lst [])) G = some (.lst []) := upd_same
    have nGD : G ≠ D := (ne_of_none (upd_same (H := H1) (a := D) (o := .lst [])) hG).symm
    have hG1 : H1 G = none := by rw [upd_ne nGD] at hG; exact hG
    change tSeq _ _ _ _ (L2.upd (L2.upd H1 D (.lst [])) G (.lst []))
    generalize L2.upd (L2.upd H1 D (.lst [])) G (.lst []) = H2 at s2 hD2 hG2 ⊢
    refine ⟨_, rfl, r, rs.map V.ref, rfl, rfl, SqL.of (s2 _ _ hr), for_it walk_enumN (fun i σ H3 => ∃ (v6 v7 v8 : Option V) (qs : List Addr), σ = [some (.ref C), some (.str text), some (.str (mkS z)), some (.ref r), some (.ref D), some (.ref G), v6, v7, v8] ∧
      H3 D = some (.lst (qs.map V.ref)) ∧ Forall2 (RowAt H3) qs ((L.take i).map (psOf z.length L.length)) ∧ (∀ q ∈ qs, q ≠ D ∧ q ≠ G) ∧ H3 G = some (.lst (((L.take i).map (enOf z.length L.length)).map V.int)) ∧ (∀ ws ∈ L.take i, (stateW z.length L.length ws).isNone = false) ∧ Same H1 H3)
      ⟨none, none, none, [], rfl, hD2, ⟨rfl, fun i x y e1 e2 => nomatch e1⟩, (fun q hq => nomatch hq), hG2, (fun w hw => nomatch hw), s2⟩ (fun i σ H3 _ ⟨_, _, _, _, _, _, _, _, _, _, s3⟩ => SqL.of (s3 _ _ hr)) ?_ ?_⟩
    · rintro i x σ H3 H4 hi ⟨v6, v7, v8, qs0, rfl, hD3, hf3, hne, hG3, hall, s3⟩ ⟨q, b, rfl, hq, rfl, hb⟩
      rw [List.length_map] at hi
      have hiL : i < L.length := by omega
      obtain rfl : V.ref rs[i] = b := by
        rw [List.getElem?_map, List.getElem?_eq_getElem hi] at hb
        exact Option.some.inj hb
      have hws := hf.2 i _ _ (List.getElem?_eq_getElem hi) (List.getElem?_eq_getElem hiL)
      obtain ⟨hwn, hwu⟩ := hsm' _ (List.getElem_mem hiL)
      have s5 := s3.trans (same_new (o := .tup [.int ((2 + i : Nat) : Int), .ref rs[i]]) hq)
      have s35 := same_new (o := .tup [.int ((2 + i : Nat) : Int), .ref rs[i]]) hq
      refine ⟨q, _, rfl, SqT.of upd_same, rfl, _, _, rfl, _, _, rfl, rfl, ?_⟩
      generalize L2.upd H3 q (.tup [.int ((2 + i : Nat) : Int), .ref rs[i]]) = H5 at s5 s35
      have hws5 := s5 _ _ hws
      have hr5 := s5 _ _ hr
      have hD5 := s35 _ _ hD3
      have hG5 := s35 _ _ hG3
      refine ⟨_, rfl, _, rfl, _, _, rfl, ⟨Nat.le_of_lt (small1000 (by omega)), rfl⟩, _, rfl, _, _, rfl, Or.inl ⟨_, SqL.of hr5, rfl⟩, rs[i], L[i], z.length, L.length, by rw [hml, List.length_map, hrl]; rfl, hws5, hwn, hwu, fun hno H7 s7 => ?_, fun ps en hps t Dn H7 s7 hDn ht hrow => ?_⟩
      · refine ⟨_, rfl, rfl, _, rfl, ite2 (fun _ => ?_) (fun c => absurd (by simp) c)⟩
        have hfi : (L.findIdx? fun ws => (stateW z.length L.length ws).isNone) = some i := by
          refine List.findIdx?_eq_some_iff_getElem.mpr ⟨hiL, ?_, fun j hj => ?_⟩
          · show (stateW z.length L.length L[i]).isNone = true
            rw [hno]; rfl
          · have := hall L[j] (List.mem_take_iff_getElem.mpr ⟨j, by omega, rfl⟩)
            simp [this]
        rw [hfi] at hrd
        have e := kb (i + 2) hrd
        refine ⟨_, rfl, by show 1 ≤ 1000; decide, fun a ha => ⟨a, _, rfl, upd_same, fun d hd hda => ⟨rfl, d, [("line", V.int ((2 + i : Nat) : Int))], upd_same, ?_, ?_, ?_⟩⟩⟩
        · rw [upd_ne hda, upd_same]
        · rw [upd_ne hda] at hd; exact hd
        · rw [upd_ne hda] at hd
          rw [Nat.add_comm] at e
          exact e d _ ((raised_of ha hd hda).after (s1.trans (s5.trans s7)))
      · refine ⟨_, rfl, rfl, _, rfl, ite2 (fun c => absurd c (by simp)) (fun _ => ?_)⟩
        have hD7 := s7 _ _ hD5
        have hG7 := s7 _ _ hG5
        have nDD : Dn ≠ D := (ne_of_none hD5 hDn).symm
        have nDG : Dn ≠ G := (ne_of_none hG5 hDn).symm
        have hql : qs0.length = i := by rw [hf3.1, List.length_map, List.length_take]; omega
        have htl : (L.take i).length = i := by rw [List.length_take]; omega
        have s17 := s5.trans s7
        have hpe : psOf z.length L.length L[i] = ps := by unfold psOf; rw [hps]; rfl
        have hee : enOf z.length L.length L[i] = (en : Int) := by unfold enOf; rw [hps]; rfl
        have hlt : ((((L.take i).map (enOf z.length L.length)).map V.int)).length ≤ 1000 := by rw [List.length_map, List.length_map]; omega
        have ntD : t ≠ D := ne_of ht hD7 fun z => nomatch z
        have ntG : t ≠ G := ne_of ht hG7 fun z => nomatch z
        refine ⟨_, rfl, Or.inl ⟨rfl, _, SqL.of hD7⟩, _, rfl, t, _, 0, .ref Dn, rfl, rfl, SqT.of ht, rfl, D, _, _, rfl, rfl, hD7, small1000 (by rw [List.length_map]; omega), ?_⟩
        have hG8 : (L2.upd H7 D (.lst (qs0.map V.ref ++ [.ref Dn]))) G = some (.lst (((L.take i).map (enOf z.length L.length)).map V.int)) := by rw [upd_ne nGD]; exact hG7
        have ht8 : (L2.upd H7 D (.lst (qs0.map V.ref ++ [.ref Dn]))) t = some (.tup [.ref Dn, .int (en : Nat)]) := by rw [upd_ne ntD]; exact ht
        refine ⟨_, rfl, Or.inl ⟨rfl, _, SqL.of hG8⟩, _, rfl, t, _, 1, .int (en : Nat), rfl, rfl, SqT.of ht8, rfl, G, _, _, rfl, rfl, hG8, small1000 hlt, ?_⟩
        refine ⟨_, _, _, qs0 ++ [Dn], rfl, by rw [upd_ne nGD.symm, upd_same, List.map_append]; rfl, ?_, fun q hq => ?_, ?_, fun ws hws => ?_, (s17.put hD).put hG1⟩
        · have mv : ∀ (a : Addr) (pp : List (Nat × Nat)), RowAt H7 a pp → a ≠ D → a ≠ G → RowAt (L2.upd (L2.upd H7 D (.lst (qs0.map V.ref ++ [.ref Dn]))) G (.lst (((L.take i).map (enOf z.length L.length)).map V.int ++ [.int (en : Nat)]))) a pp := fun a pp h n1 n2 => by
            have h1 : RowAt (L2.upd H7 D (.lst (qs0.map V.ref ++ [.ref Dn]))) a pp := h.move (fun b u e nb => by rw [upd_ne nb]; exact e) hD7 n1
            exact h1.move (fun b u e nb => by rw [upd_ne nb]; exact e) hG8 n2
          rw [take_more hiL, List.map_append]
          refine Forall2.snoc ⟨hf3.1, fun k x y e1 e2 => ?_⟩ ?_
          · obtain ⟨n1, n2⟩ := hne x (List.mem_of_getElem? e1)
            exact mv x y (((hf3.2 k x y e1 e2).same s35).same s7) n1 n2
          · rw [hpe]
            exact mv Dn ps hrow nDD nDG
        · rcases List.mem_append.mp hq with h | h
          · exact hne q h
          · rw [List.mem_singleton.mp h]; exact ⟨nDD, nDG⟩
        · rw [upd_same, take_more hiL, List.map_append, List.map_append, List.map_singleton, hee]; rfl
        · rw [take_more hiL] at hws
          rcases List.mem_append.mp hws with h | h
          · exact hall ws h
          · rw [List.mem_singleton.mp h, hps]; rfl
    · rintro σ H3 ⟨v6, v7, v8, qs, rfl, hD3, hf3, hne, hG3, hall, s3⟩
      rw [List.length_map, hrl, List.take_length] at hf3 hG3 hall
      have hfi : (L.findIdx? fun ws => (stateW z.length L.length ws).isNone) = none := List.findIdx?_eq_none_iff.mpr fun ws hws => hall ws hws
      rw [hfi] at hrd
      have hRw : Dp K H3 (.ref D) (rowsD ((L.map (psOf z.length L.length)).map rowN)) := Dp.lst (SqL.of hD3) (dpAll_rows hf3.1 hf3.2)
      have hEn : Dp K H3 (.ref G) (intsD (L.map (enOf z.length L.length))) := Dp.lst (SqL.of hG3) (dpAll_ints K H3 _)
      have hgd := goodC_of hLl.2 hall
      rw [← hml] at hgd
      refine ⟨rfl, _, rfl, _, rfl, _, rfl, fun x dx hx hdx ne => mk_okC hx hdx ne (Or.inl (by rw [hml]; exact hRw)) (Or.inl (by rw [hml]; exact hEn)) hgd (by omega) (by rw [List.length_map, List.length_map]; omega) (fun H4 s4 hM => ⟨rfl, ks z _ _ hrd x _ ((s1.trans s3).trans s4) (by rw [hml] at hM; exact hM)⟩)⟩
end
end Vf
set_option Elab.async false
set_option linter.all false
set_option maxRecDepth 100000
set_option maxHeartbeats 4000000
namespace Vf
open PySem L2 PyProof.Rows
theorem spl43 (acc r : List Nat) (c : Nat) : TL.spl [43] 0 acc (c :: r) = if c = 43 then acc :: TL.spl [43] 0 [] r else TL.spl [43] 0 (acc ++ [c]) r := by
  by_cases h : c = 43
  · rw [if_pos h, TL.spl_hit (by rw [h]; exact TL.pre_self [43] r)]
    rfl
  · rw [if_neg h, TL.spl_miss]
    rw [← Bool.not_eq_true]
    intro q
    unfold TL.pre at q
    simp at q
    omega
theorem spl43_len : ∀ (w acc : List Nat), (TL.spl [43] 0 acc w).length = (w.filter fun c => decide (c = 43)).length + 1
  | [], acc => by rw [TL.spl_nil]; rfl
  | c :: r, acc => by
    rw [spl43]
    by_cases h : c = 43
    · rw [if_pos h, List.length_cons, spl43_len r, List.filter_cons_of_pos (by simp [h]), List.length_cons]
    · rw [if_neg h, spl43_len r, List.filter_cons_of_neg (by simp [h])]
theorem spl43_none : ∀ (w acc : List Nat), 43 ∉ w → TL.spl [43] 0 acc w = [acc ++ w]
  | [], acc, _ => by rw [TL.spl_nil, List.append_nil]
  | c :: r, acc, h => by
    rw [spl43, if_neg (fun q => h (by rw [q]; exact List.mem_cons_self)), spl43_none r _ (fun q => h (List.mem_cons_of_mem _ q)), List.append_assoc]; rfl
theorem spl43_mid : ∀ (a acc r : List Nat), 43 ∉ a → TL.spl [43] 0 acc (a ++ 43 :: r) = (acc ++ a) :: TL.spl [43] 0 [] r
  | [], acc, r, _ => by rw [List.nil_append, spl43, if_pos rfl, List.append_nil]
  | c :: a, acc, r, h => by
    rw [List.cons_append, spl43, if_neg (fun q => h (by rw [q]; exact List.mem_cons_self)), spl43_mid a _ r (fun q => h (List.mem_cons_of_mem _ q)), List.append_assoc]; rfl
theorem idx_cut : ∀ {w : List Nat}, 43 ∈ w → w = w.take (w.idxOf 43) ++ 43 :: w.drop (w.idxOf 43 + 1) ∧ 43 ∉ w.take (w.idxOf 43)
  | [], h => nomatch h
  | c :: r, h => by
    by_cases e : c = 43
    · subst e
      rw [List.idxOf_cons_self]
      exact ⟨rfl, fun q => nomatch q⟩
    · have h' : 43 ∈ r := (List.mem_cons.mp h).resolve_left fun q => e q.symm
      obtain ⟨h1, h2⟩ := idx_cut h'
      have ei : (c :: r).idxOf 43 = r.idxOf 43 + 1 := by rw [List.idxOf_cons, show (c == 43) = false from by simpa using e]; rfl
      rw [ei]
      refine ⟨by rw [List.take_succ_cons, List.drop_succ_cons, List.cons_append, ← h1], fun q => ?_⟩
      rw [List.take_succ_cons] at q
      rcases List.mem_cons.mp q with u | u
      · exact e u.symm
      · exact h2 u
def plus (c : Nat) : Bool := decide (c = 43)
theorem pairW_one {n : Nat} {w : List Nat} (h : (w.filter plus).length = 1) : 43 ∈ w ∧ pairW n w = pairN n (numW (w.take (w.idxOf 43))) (numW (w.drop (w.idxOf 43 + 1))) := by
  have hm : 43 ∈ w := by
    cases e : w.filter plus with
    | nil => rw [e] at h; cases h
    | cons a l =>
      have h1 : a ∈ w.filter plus := by rw [e]; exact List.mem_cons_self
      have h2 := List.mem_filter.mp h1
      have h3 : a = 43 := of_decide_eq_true h2.2
      rw [← h3]
      exact h2.1
  obtain ⟨h1, h2⟩ := idx_cut hm
  refine ⟨hm, ?_⟩
  have hb : 43 ∉ w.drop (w.idxOf 43 + 1) := fun q => by
    rw [h1, List.filter_append, List.filter_cons_of_pos (by decide), List.length_append, List.length_cons] at h
    have := List.length_pos_of_mem (List.mem_filter.mpr ⟨q, show plus 43 = true by decide⟩)
    omega
  have e : TL.spl [43] 0 [] w = [w.take (w.idxOf 43), w.drop (w.idxOf 43 + 1)] := by
    conv => lhs; rw [h1]
    rw [spl43_mid _ _ _ h2, spl43_none _ _ hb]
    rfl
  unfold pairW
  rw [e]
theorem pairW_not {n : Nat} {w : List Nat} (h : (w.filter plus).length ≠ 1) : pairW n w = none := by
  unfold pairW
  have := spl43_len w []
  split
  · rename_i a b e
    rw [e] at this
    exact absurd (show (w.filter plus).length = 1 by simp at this; exact this) h
  · rfl
section
variable {P : Program} {w : World} {K : PySem.W.Frag} {mg : Str → Option Value} {base : Heap}
def spPairL : Sp := fun vs H Q _ => ∃ (x : Str) (n : Nat), vs = [.str x, .int n] ∧ x.length ≤ 600 ∧ chOk (TL.tl x) ∧ (pairW n (TL.tl x) = none → ∀ H', Same H H' → Q .non H') ∧
  (∀ g b, pairW n (TL.tl x) = some (g, b) → ∀ t H', Same H H' → H t = none → H' t = some (.tup [.int (g : Nat), .int (b : Nat)]) → Q (.ref t) H')
structure TxtPL (K : PySem.W.Frag) (mg : Str → Option Value) (fN : Addr) : Prop where
  len : mg "len" = none
  m_law_number : mg "_law_number" = some (.ref fN)
  k_law_number : PySem.W.keepIn K (.ref fN) = true
abbrev s__law_pair : Stmt := top 30
abbrev N__law_pair : List Str := ["_law_word", "_law_count", "_law_at", "_law_goal", "_law_bits_here", "_law_sign"]
abbrev P__law_pair : List Str := ["_law_word", "_law_count"]
theorem sc__law_pair : FnScope N__law_pair P__law_pair (defScope s__law_pair) := ⟨rfl, rfl, rfl, by decide +kernel, rfl, by decide +kernel, by decide +kernel⟩

theorem ok_pairL {f fN : Addr} {fd fdN : FuncData} (F : Fun K "_law_pair" "_law_pair" s__law_pair f fd) (T : TxtPL K mg fN) (G_law_number : FnOk P w K mg base CX0 1 fN fdN P__law_number spNumB) (b_law_number : Binds K fdN P__law_number []) : FnOk P w K mg base CX0 2 f fd P__law_pair spPairL := by
  refine F.ok sc__law_pair (fun vs H Q E h => ?_) (fun cdv A outer s H vs Q E hr h => ?_)
  · obtain ⟨x, n, rfl, _⟩ := h
    rfl
  · obtain ⟨x, n, rfl, hl, hch, k0, k1⟩ := h
    have hu := hu_of hr
    refine ⟨_, (pss_cons (ps_if (pt_cmpR op_ne (pe_callB call_len (by rfl) T.len PySem.boot_len (pa_cons (pe_lc (own := [("_law_sign", 5)]) (g := gName 5) (by rfl) sc__law_pair.nd (pi_str (pv 0)) (blkOk_by (own := [("_law_sign", 5)]) (N := N__law_pair) (sc := defScope s__law_pair) (by decide +kernel)) (fun _ _ _ _ _ => pg_name (i := 5) sc__law_pair.nd rfl (Or.inl rfl)) (fun _ _ _ _ _ => (pts_one (pt_cmpR op_eq (pv 5) pe_str (nomark _)))) (fun _ _ _ _ _ => (pv 5))) pa_nil)) pe_int (nomark _)) (pss_one (ps_ret pe_non)) pss_nil)
      (pss_cons (ps_set (i := 2) sc__law_pair.nd rfl (Or.inl rfl) (pe_m1 PySem.F.slot_str_index PySem.F.type_str_index mt_sindex (pv 0) pe_str))
      (pss_cons (ps_par (i := 3) (j := 4) (by rfl) sc__law_pair.nd rfl rfl (by decide) rfl rfl (pa_cons (pe_call G_law_number (hr.mono (by decide)) (by rfl) T.m_law_number T.k_law_number b_law_number .nil pass0 (pa_cons (pe_slice sl_str (pv 0) po_none (po_some (pv 2))) (pa_cons (pv 1) pa_nil))) (pa_cons (pe_call G_law_number (hr.mono (by decide)) (by rfl) T.m_law_number T.k_law_number b_law_number .nil pass0 (pa_cons (pe_slice sl_str (pv 0) (po_some (pe_op op_add (pv 2) pe_int)) po_none) (pa_cons pe_non pa_nil))) pa_nil)) (by rfl))
      (pss_one (ps_ret (pe_ifExp (PW.pt (pw_or (pt_cmpR op_isN (pv 3) pe_non (nomark _)) (pw_or1 (pt_cmpR op_isN (pv 4) pe_non (nomark _))))) pe_non (pe_tup (pa_cons (pv 3) (pa_cons (pv 4) pa_nil))))))))), ?_⟩
    have hxs : x.length ≤ sizeLine := Nat.le_of_lt (small1000 (by omega))
    have hn : x.length = (TL.tl x).length := TL.len_tl x
    have e43 : ∀ c : Nat, (({ cps := #[c] } : Str) = "+") ↔ c = 43 := fun c => ⟨fun q => sg_inj (q : sg c = sg 43), fun q => by rw [q]; rfl⟩
    refine ⟨_, rfl, x, rfl, fun D hD => lc_it walk_strS (fun j H5 => H5 D = some (.lst (((((TL.tl x).take j).filter plus).map sg).map V.str)) ∧ Same H H5) ⟨upd_same, same_new hD⟩ (fun _ _ _ _ => trivial) ?_ ?_⟩
    · rintro j y H2 H1 hj ⟨hD1, s1⟩ ⟨rfl, cc, hcc, rfl⟩
      obtain ⟨hjl, hje⟩ := List.getElem?_eq_some_iff.mp hcc
      have hlen : (((((TL.tl x).take j).filter plus).map sg).map V.str).length < sizeLine := by
        rw [List.length_map, List.length_map]
        have h1 := List.length_filter_le plus ((TL.tl x).take j)
        rw [List.length_take] at h1
        exact small1000 (by omega)
      refine ⟨rfl, ?_⟩
      refine ⟨_, rfl, rfl, _, rfl, ?_⟩
      by_cases hd : cc = 43
      · refine ite2 (fun _ => ?_) (fun c => absurd (by simp; exact (e43 cc).mpr hd) c)
        refine ⟨_, rfl, _, hD1, hlen, ?_, s1.put hD⟩
        rw [upd_same, take_more hjl, hje, List.filter_append, List.filter_cons_of_pos (by unfold plus; simp [hd]), List.filter_nil, List.map_append, List.map_append]; rfl
      · refine ite2 (fun c => absurd ((e43 cc).mp (V.str.inj (of_decide_eq_true c))) hd) (fun _ => ⟨?_, s1⟩)
        rw [take_more hjl, hje, List.filter_append, List.filter_cons_of_neg (by unfold plus; simp [hd]), List.filter_nil, List.append_nil]
        exact hD1
    · rintro H1 ⟨hD1, s1⟩
      rw [TL.len_tl, List.take_length] at hD1
      refine ⟨_, _, rfl, Or.inl ⟨_, SqL.of hD1, rfl⟩, rfl, _, rfl, ?_⟩
      rw [List.length_map, List.length_map]
      by_cases h1 : ((TL.tl x).filter plus).length = 1
      · obtain ⟨hm, hpw⟩ := pairW_one (n := n) h1
        rw [hpw] at k0 k1
        refine ite2 (fun c => absurd c (by rw [h1]; simp)) (fun _ => ?_)
        obtain ⟨rest, hocc⟩ := occ_sg hm
        have hil : (TL.tl x).idxOf 43 < (TL.tl x).length := List.idxOf_lt_length_of_mem hm
        refine ⟨_, rfl, ⟨_, rfl⟩, x, sg 43, _, rest, rfl, rfl, hocc, ?_⟩
        generalize (TL.tl x).idxOf 43 = at_ at hil k0 k1 ⊢
        have ea : (at_ : Int) + 1 = ((at_ + 1 : Nat) : Int) := by omega
        have c1 : TL.tl (cutS x none (some (at_ : Int))) = (TL.tl x).take at_ := cut_to (by omega)
        have c2 : TL.tl (cutS x (some ((at_ : Int) + 1)) none) = (TL.tl x).drop (at_ + 1) := by rw [ea]; exact cut_from (by omega)
        refine ⟨_, rfl, _, rfl, _, rfl, x, rfl, hxs, _, rfl, Or.inl ⟨_, n, rfl, by rw [TL.len_tl, c1, List.length_take]; omega, by rw [c1]; exact fun c hc => hch c (List.mem_of_mem_take hc), fun H2 s2 => ?_⟩⟩
        rw [c1]
        refine ⟨_, rfl, _, rfl, _, _, rfl, rfl, _, rfl, x, rfl, hxs, Or.inr ⟨_, rfl, by rw [TL.len_tl, c2, List.length_drop]; omega, by rw [c2]; exact fun c hc => hch c (List.mem_of_mem_drop hc), fun H3 s3 => ⟨_, _, rfl, ?_⟩⟩⟩
        rw [c2]
        generalize (TL.tl x).take at_ = a at k0 k1 ⊢
        generalize (TL.tl x).drop (at_ + 1) = b at k0 k1 ⊢
        have s03 := (s1.trans s2).trans s3
        cases hok : okN n a with
        | false =>
          have e1 : numX n a = .non := by unfold numX; rw [hok]; rfl
          have e2 : pairN n (numW a) (numW b) = none := by
            unfold okN at hok
            cases ha : numW a with
            | none => rfl
            | some g =>
              rw [ha] at hok
              have hok : decide (g < n) = false := hok
              cases numW b with
              | none => rfl
              | some k => exact if_neg (of_decide_eq_false hok)
          have k0 := k0 e2 H3 s03
          rw [e1]
          exact ⟨_, rfl, rfl, _, rfl, ite2 (fun _ => k0) (fun c => absurd (by simp) c)⟩
        | true =>
          unfold okN at hok
          cases ha : numW a with
          | none => rw [ha] at hok; cases hok
          | some g =>
            have hok2 : okN n a = true := by unfold okN; exact hok
            rw [ha] at hok
            have hok : g < n := of_decide_eq_true hok
            have e1 : numX n a = .int (g : Nat) := by unfold numX valN; rw [hok2, ha]; rfl
            rw [e1]
            refine ⟨_, rfl, rfl, _, rfl, ite2 (fun c => absurd c (by simp)) (fun _ => ?_)⟩
            cases hb : numW b with
            | none =>
              have k0 := k0 (by rw [ha, hb]; rfl) H3 s03
              exact ⟨_, rfl, rfl, _, rfl, ite2 (fun _ => k0) (fun c => absurd (by simp [numV]) c)⟩
            | some k =>
              refine ⟨_, rfl, rfl, _, rfl, ite2 (fun c => absurd c (by simp [numV])) (fun _ => ?_)⟩
              exact ⟨_, rfl, _, rfl, by show 2 ≤ sizeLine; decide, fun t ht => k1 g k (by rw [ha, hb]; exact if_pos hok) t _ (s03.trans (same_new ht)) (s03.free ht) upd_same⟩
      · refine ite2 (fun _ => ?_) (fun c => absurd (by simp; omega) c)
        exact k0 (pairW_not h1) _ s1
end
end Vf
set_option Elab.async false
set_option linter.all false
set_option maxRecDepth 100000
set_option maxHeartbeats 4000000
namespace Vf
open PySem L2 PyProof.Rows
theorem opt_row {H H3 : Hp} {n : Nat} : ∀ (vs : List V) (B : List (List Nat)), B.all (someP n) = true → Forall2 (OptAt H H3) vs (B.map (pairW n)) → ∃ ts : List Addr, vs = ts.map V.ref ∧ Forall2 (fun (t : Addr) (p : Nat × Nat) => H3 t = some (.tup [.int (p.1 : Nat), .int (p.2 : Nat)])) ts (B.map fun w => (pairW n w).getD (0, 0)) := by
  intro vs B
  induction B generalizing vs with
  | nil =>
    intro _ h
    obtain rfl : vs = [] := List.eq_nil_of_length_eq_zero h.1
    exact ⟨[], rfl, rfl, fun i x y e1 e2 => nomatch e1⟩
  | cons b B ih =>
    intro ha h
    rw [List.all_cons, Bool.and_eq_true] at ha
    cases vs with
    | nil => cases h.1
    | cons v vs =>
      have h0 : OptAt H H3 v (pairW n b) := h.2 0 v _ rfl rfl
      obtain ⟨ts, rfl, hts⟩ := ih vs ha.2 ⟨by have := h.1; simpa using this, fun i x y e1 e2 => h.2 (i + 1) x y e1 e2⟩
      have h1 := ha.1
      unfold someP at h1
      cases e : pairW n b with
      | none => rw [e] at h1; cases h1
      | some p =>
        rw [e] at h0
        obtain ⟨t, rfl, ht, _⟩ := h0
        refine ⟨t :: ts, rfl, by rw [List.length_cons, List.map_cons, List.length_cons, hts.1], fun i x y e1 e2 => ?_⟩
        cases i with
        | zero =>
          have e1 : t = x := Option.some.inj e1
          subst e1
          have e2 : (pairW n b).getD (0, 0) = y := Option.some.inj e2
          rw [e] at e2
          have e2 : p = y := e2
          subst e2
          exact ht
        | succ i => exact hts.2 i x y e1 e2
structure TxtLr (K : PySem.W.Frag) (mg : Str → Option Value) (C fW fN fA fP : Addr) : Prop extends TxtA K mg where
  mgCode : mg "Code" = some (.ref C)
  m_law_words : mg "_law_words" = some (.ref fW)
  k_law_words : PySem.W.keepIn K (.ref fW) = true
  m_law_number : mg "_law_number" = some (.ref fN)
  k_law_number : PySem.W.keepIn K (.ref fN) = true
  m_law_are_values : mg "_law_are_values" = some (.ref fA)
  k_law_are_values : PySem.W.keepIn K (.ref fA) = true
  m_law_pair : mg "_law_pair" = some (.ref fP)
  k_law_pair : PySem.W.keepIn K (.ref fP) = true
section
variable {P : Program} {w : World} {K : PySem.W.Frag} {mg : Str → Option Value} {base : Heap}
def spLawR (K : PySem.W.Frag) (C : Addr) : Sp := fun vs H Q _ => ∃ text : Str, vs = [.str text] ∧ text.length ≤ 600 ∧ (textL (TL.tl text)).length ≤ 60 ∧ chOk (TL.tl text) ∧
  (∀ i, readC (TL.tl text) = .bad i → ∀ H', Same H H' → Q (.int (i : Nat)) H') ∧ (∀ z rs es, readC (TL.tl text) = .code z rs es → ∀ o H', Same H H' → CodeAt K C H' o (mkS z) rs es → Q (.ref o) H')
abbrev s__law_read : Stmt := top 31
abbrev N__law_read : List Str := ["_law_text", "_law_lines", "_law_first", "_law_rows", "_law_ends", "_law_k", "_law_words_here", "_law_row", "_law_end", "_law_word"]
abbrev P__law_read : List Str := ["_law_text"]
theorem sc__law_read : FnScope N__law_read P__law_read (defScope s__law_read) := ⟨rfl, rfl, rfl, by decide +kernel, rfl, by decide +kernel, by decide +kernel⟩

theorem ok_lawR {f fI C CB fW fN fA fP : Addr} {fd fdI fdW fdN fdA fdP : FuncData} (F : Fun K "_law_read" "_law_read" s__law_read f fd) (T : TxtLr K mg C fW fN fA fP)
    (G_law_words : FnOk P w K mg base CX0 1 fW fdW P__law_words (spWords K)) (b_law_words : Binds K fdW P__law_words []) (G_law_number : FnOk P w K mg base CX0 1 fN fdN P__law_number spNumB) (b_law_number : Binds K fdN P__law_number [])
    (G_law_are_values : FnOk P w K mg base CX0 1 fA fdA P__law_are_values spAreL) (b_law_are_values : Binds K fdA P__law_are_values [])
    (G_law_pair : FnOk P w K mg base CX0 2 fP fdP P__law_pair spPairL) (b_law_pair : Binds K fdP P__law_pair [])
    (MCode : Mk K C fI) (GCode : FnOk P w K mg base (L2.CX P w) 4 fI fdI P_Code___init__ (spInit K C CB)) (bCode : Binds K fdI P_Code___init__ []) : FnOk P w K mg base (L2.CX P w) 6 f fd P__law_read (spLawR K C) := by
  refine F.okX sc__law_read (fun vs H Q E h => ?_) (fun cdv A outer s H vs Q E hr h => ?_)
  · obtain ⟨text, rfl, _⟩ := h
    rfl
  · obtain ⟨text, rfl, hl, hl60, hch, kb, ks⟩ := h
    have hu := hu_of hr
    have passL : Passes (L2.CX P w) (cxOf (L2.CX P w) P w K mg base N__law_read "_law_read" (defScope s__law_read) f cdv A outer s H E) E := passes_call (takes_of rfl rfl rfl rfl) (fun _ _ _ _ h => h)
    refine ⟨_, (pss_cons (ps_set (i := 1) sc__law_read.nd rfl (Or.inr rfl) (pe_split (pv 0) pe_str))
      (pss_cons (ps_par3 (i := 2) (j := 3) (l := 4) rfl sc__law_read.nd rfl rfl rfl (by decide) (by decide) (by decide) rfl rfl rfl (pa_cons (pe_call G_law_words (hr.mono (by decide)) (by rfl) T.m_law_words T.k_law_words b_law_words .nil pass0 (pa_cons (pe_ix ix_list (pv 1) pe_int (fun _ _ => rfl)) pa_nil)) (pa_cons (pe_lst pa_nil) (pa_cons (pe_lst pa_nil) pa_nil))) (by rfl))
      (pss_cons (ps_if (PW.pt (pw_or (pt_cmpR op_ne (pe_callB call_len (by rfl) T.len PySem.boot_len (pa_cons (pv 2) pa_nil)) pe_int (nomark _)) (pw_or (pt_cmpR op_ne (pe_ix ix_list (pv 2) pe_int (fun _ _ => rfl)) pe_str (nomark _)) (pw_or1 (pt_not (pt_val (pe_call G_law_are_values (hr.mono (by decide)) (by rfl) T.m_law_are_values T.k_law_are_values b_law_are_values .nil pass0 (pa_cons (pe_ix ix_list (pv 2) pe_int (fun _ _ => rfl)) pa_nil)))))))) (pss_one (ps_ret pe_int)) pss_nil)
      (pss_cons (ps_if (pt_cmpR op_eq (pe_callB call_len (by rfl) T.len PySem.boot_len (pa_cons (pv 1) pa_nil)) pe_int (nomark _)) (pss_one (ps_ret pe_int)) pss_nil)
      (pss_cons (ps_for (passes_of rfl) rfl (pi_range2 (by rfl) T.range (pa_cons pe_int (pa_cons (pe_callB call_len (by rfl) T.len PySem.boot_len (pa_cons (pv 1) pa_nil)) pa_nil))) (pg_name (i := 5) sc__law_read.nd rfl (Or.inl rfl)) (pss_cons (ps_set (i := 6) sc__law_read.nd rfl (Or.inl rfl) (pe_call G_law_words (hr.mono (by decide)) (by rfl) T.m_law_words T.k_law_words b_law_words .nil pass0 (pa_cons (pe_ix ix_list (pv 1) (pv 5) (fun _ _ => rfl)) pa_nil)))
      (pss_cons (ps_if (PW.pt (pw_or (pt_cmpR op_ne (pe_callB call_len (by rfl) T.len PySem.boot_len (pa_cons (pv 6) pa_nil)) (pe_op op_add (pe_callB call_len (by rfl) T.len PySem.boot_len (pa_cons (pe_ix ix_list (pv 2) pe_int (fun _ _ => rfl)) pa_nil)) pe_int) (nomark _)) (pw_or1 (pt_cmpR op_ne (pe_slice sl_str (pe_ix ix_list (pv 6) (pe_un un_neg pe_int) (fun _ _ => rfl)) po_none (po_some pe_int)) pe_str (nomark _))))) (pss_one (ps_ret (pe_op op_add (pv 5) pe_int))) pss_nil)
      (pss_cons (ps_par (i := 7) (j := 8) (by rfl) sc__law_read.nd rfl rfl (by decide) rfl rfl (pa_cons (pe_lc (own := [("_law_word", 9)]) (g := gName 9) (by rfl) sc__law_read.nd (pi_seq (K := K) rfl (pe_slice sl_list (pv 6) po_none (po_some (pe_un un_neg pe_int)))) (blkOk_by (own := [("_law_word", 9)]) (N := N__law_read) (sc := defScope s__law_read) (by decide +kernel)) (fun _ _ _ _ _ => pg_name (i := 9) sc__law_read.nd rfl (Or.inl rfl)) (fun _ _ _ _ _ => pts_nil) (fun _ _ _ _ _ => (pe_call G_law_pair (hr.mono (by decide)) (by rfl) T.m_law_pair T.k_law_pair b_law_pair .nil pass0 (pa_cons (pv 9) (pa_cons (pe_op op_sub (pe_callB (call_lenK (K := K) rfl) (by rfl) T.len PySem.boot_len (pa_cons (pv 1) pa_nil)) pe_int) pa_nil))))) (pa_cons (pe_call G_law_number (hr.mono (by decide)) (by rfl) T.m_law_number T.k_law_number b_law_number .nil pass0 (pa_cons (pe_slice sl_str (pe_ix ix_list (pv 6) (pe_un un_neg pe_int) (fun _ _ => rfl)) (po_some pe_int) po_none) (pa_cons pe_non pa_nil))) pa_nil)) (by rfl))
      (pss_cons (ps_if (PW.pt (pw_or (pt_cmpR (op_inD (hu65 hr)) pe_non (pv 7) (by rfl)) (pw_or1 (pt_cmpR op_isN (pv 8) pe_non (nomark _))))) (pss_one (ps_ret (pe_op op_add (pv 5) pe_int))) pss_nil)
      (pss_cons (ps_expr (pe_bm PySem.F.plainAttrs_list PySem.F.slot_list_append PySem.F.type_list_append mt_append (pv 3) (pa_cons (pv 7) pa_nil)))
      (pss_one (ps_expr (pe_bm PySem.F.plainAttrs_list PySem.F.slot_list_append PySem.F.type_list_append mt_append (pv 4) (pa_cons (pv 8) pa_nil))))))))))
      (pss_one (ps_ret (pe_make MCode GCode (hr.mono (by decide)) (by rfl) T.mgCode bCode .nil passL (pa_cons (pe_ix ix_list (pv 2) pe_int (fun _ _ => rfl)) (pa_cons (pv 3) (pa_cons (pv 4) pa_nil))))))))))), ?_⟩
    have hxs : text.length + 2 ≤ sizeLine := Nat.le_of_lt (small1000 (by omega))
    have hpl : ∀ p ∈ linesOf (TL.tl text), p.length ≤ 600 := fun p hp => by
      have := spl_len [10] 0 [] (TL.tl text) p hp
      rw [List.length_nil, ← TL.len_tl] at this
      omega
    refine ⟨_, rfl, ⟨_, rfl⟩, text, "\n", rfl, rfl, by decide +kernel, hxs, fun p hp => ?_⟩
    rw [split_nl]
    have s0 : Same H (L2.upd H p (.lst (((linesOf (TL.tl text)).map mkS).map V.str))) := same_new hp
    have hp0 : (L2.upd H p (.lst (((linesOf (TL.tl text)).map mkS).map V.str))) p = some (.lst (((linesOf (TL.tl text)).map mkS).map V.str)) := upd_same
    change tSeq _ _ _ _ (L2.upd H p (.lst (((linesOf (TL.tl text)).map mkS).map V.str)))
    generalize L2.upd H p (.lst (((linesOf (TL.tl text)).map mkS).map V.str)) = H0 at s0 hp0 ⊢
    obtain ⟨l0, ll, hll⟩ : ∃ l0 ll, linesOf (TL.tl text) = l0 :: ll := by
      cases e : linesOf (TL.tl text) with
      | nil => exact absurd e (spl_ne [10] 0 [] _)
      | cons a b => exact ⟨a, b, rfl⟩
    have hL : textL (TL.tl text) = wordsOf l0 :: ll.map wordsOf := by unfold textL; rw [hll]; rfl
    have h0l : l0.length ≤ 600 := hpl l0 (by rw [hll]; exact List.mem_cons_self)
    have hsm := textL_small (t := TL.tl text) (by rw [← TL.len_tl]; exact hl)
    rw [hL] at hsm
    refine ⟨_, rfl, p, _, 0, .str (mkS l0), rfl, rfl, SqL.of hp0, at_of' (show (0 : Int) = ((0 : Nat) : Int) from rfl) (by rw [hll]; rfl), mkS l0, rfl, by rw [TL.len_tl, tl_mkS]; exact h0l, fun r H1 s1 hrn hr => ⟨by show 0 ≤ sizeLine; decide, fun D hD => ⟨by show 0 ≤ sizeLine; decide, fun G hG => ⟨_, _, _, rfl, ?_⟩⟩⟩⟩
    rw [tl_mkS] at hr
    have sH : Same H (L2.upd (L2.upd H1 D (.lst [])) G (.lst [])) := ((s0.trans s1).trans (same_new hD)).trans (same_new hG)
    have hD2 : (L2.upd (L2.upd H1 D (.lst [])) G (.lst [])) D = some (.lst []) := same_new hG _ _ upd_same
    have hG2 : (L2.upd (L2.upd H1 D (.lst [])) G (.lst [])) G = some (.lst []) := upd_same
    have hr2 : (L2.upd (L2.upd H1 D (.lst [])) G (.lst [])) r = some (.lst ((wordsOf l0).map wordV)) := ((same_new hD).trans (same_new hG)) _ _ hr
    have hp2 : (L2.upd (L2.upd H1 D (.lst [])) G (.lst [])) p = some (.lst (((linesOf (TL.tl text)).map mkS).map V.str)) := (((s1.trans (same_new hD)).trans (same_new hG))) _ _ hp0
    have nGD : G ≠ D := (ne_of_none (upd_same (H := H1) (a := D) (o := .lst [])) hG).symm
    have hD0 : H D = none := (s0.trans s1).free hD
    have hG0 : H G = none := (s0.trans s1).free (by rw [upd_ne nGD] at hG; exact hG)
    have npD : p ≠ D := ne_of_none (s1 _ _ hp0) hD
    have nrD : r ≠ D := ne_of_none hr hD
    have npG : p ≠ G := ne_of_none (same_new hD _ _ (s1 _ _ hp0)) hG
    have nrG : r ≠ G := ne_of_none (same_new hD _ _ hr) hG
    change tSeq _ _ _ _ (L2.upd (L2.upd H1 D (.lst [])) G (.lst []))
    generalize L2.upd (L2.upd H1 D (.lst [])) G (.lst []) = H2 at sH hD2 hG2 hr2 hp2 ⊢
    have hrd : readC (TL.tl text) = match headZ (TL.tl "code") (wordsOf l0 :: ll.map wordsOf) with
        | none => .bad 1
        | some z => if (wordsOf l0 :: ll.map wordsOf).length < 2 then .bad 2 else match (ll.map wordsOf).findIdx? fun ws => (stateW z.length (ll.map wordsOf).length ws).isNone with
          | some j => .bad (j + 2)
          | none => .code z (((ll.map wordsOf).map (psOf z.length (ll.map wordsOf).length)).map rowN) ((ll.map wordsOf).map (enOf z.length (ll.map wordsOf).length)) := by
      unfold readC
      rw [hL]
      rfl
    obtain ⟨_, hwu⟩ := hsm _ List.mem_cons_self
    refine ⟨_, rfl, _, _, rfl, Or.inl ⟨_, SqL.of hr2, rfl⟩, rfl, _, rfl, ?_⟩
    by_cases hW : (wordsOf l0).length = 2
    · refine ite2 (fun c => absurd c (by rw [List.length_map, hW]; simp)) (fun _ => ?_)
      obtain ⟨wt, wz, hwl⟩ := two_of hW
      have hwc := textL_ch hch (wordsOf l0) (by rw [hL]; exact List.mem_cons_self)
      rw [hwl] at hr2 hrd hwu hwc
      rw [headZ_two] at hrd
      have ett : (mkS wt = "code") ↔ wt = TL.tl "code" := ⟨fun q => by rw [← q, tl_mkS], fun q => by rw [q, mkS_tl]⟩
      refine ⟨_, rfl, r, _, 0, .str (mkS wt), rfl, rfl, SqL.of hr2, at_of' (show (0 : Int) = ((0 : Nat) : Int) from rfl) rfl, rfl, _, rfl, ?_⟩
      by_cases ht : wt = TL.tl "code"
      · refine ite2 (fun c => absurd c (by rw [ett.mpr ht]; simp)) (fun _ => ?_)
        have hzl := (hwu wz (List.mem_cons_of_mem _ List.mem_cons_self)).1
        have hwzc := hwc wz (List.mem_cons_of_mem _ List.mem_cons_self)
        refine ⟨_, rfl, r, _, 1, .str (mkS wz), rfl, rfl, SqL.of hr2, at_of' (show (1 : Int) = ((1 : Nat) : Int) from rfl) rfl, mkS wz, rfl, by rw [TL.len_tl, tl_mkS]; exact hzl, by rw [tl_mkS]; exact hwzc, fun H3 s3 => ⟨_, rfl, ?_⟩⟩
        rw [tl_mkS]
        have sH3 := sH.trans s3
        have hp3 := s3 _ _ hp2
        by_cases hz : okZ wz = true
        · refine ite2 (fun c => absurd c (by rw [hz]; decide)) (fun _ => ?_)
          rw [if_pos ⟨ht, hz⟩] at hrd
          refine ⟨_, rfl, _, _, rfl, Or.inl ⟨_, SqL.of hp3, rfl⟩, rfl, _, rfl, ?_⟩
          rw [hll]
          by_cases hlz : ll = []
          · refine ite2 (fun _ => ?_) (fun c => absurd (by rw [hlz]; rfl) c)
            rw [hlz] at hrd
            exact kb 2 hrd _ sH3
          · have hlp : 0 < ll.length := by
              cases ll with
              | nil => exact absurd rfl hlz
              | cons a b => exact Nat.succ_pos _
            refine ite2 (fun c => absurd c (by simp; omega)) (fun _ => ?_)
            replace hrd := hrd.trans (if_neg (by rw [List.length_cons, List.length_map]; omega))
            have hD3 := s3 _ _ hD2
            have hG3 := s3 _ _ hG2
            have hr3 := s3 _ _ hr2
            have hkk : ((((l0 :: ll).map mkS).map V.str).length : Nat) = ll.length + 1 := by rw [List.length_map, List.length_map, List.length_cons]
            have hml : (mkS wz).length = wz.length := by rw [TL.len_tl, tl_mkS]
            have hLl : (ll.map wordsOf).length = ll.length := List.length_map ..
            have hn60 : ll.length ≤ 60 := by
              rw [hL, List.length_cons, hLl] at hl60
              omega
            have hzl3 : wz.length ≤ 3 := by
              unfold okZ at hz
              rw [Bool.and_eq_true, Bool.and_eq_true, decide_eq_true_eq, decide_eq_true_eq] at hz
              exact hz.1.2
            have hsmL : ∀ W ∈ ll.map wordsOf, W.length ≤ 700 ∧ ∀ u ∈ W, u.length ≤ 600 ∧ u ≠ [] := fun W hW => hsm W (List.mem_cons_of_mem _ hW)
            have hchL : ∀ W ∈ ll.map wordsOf, ∀ u ∈ W, chOk u := fun W hW => textL_ch hch W (by rw [hL]; exact List.mem_cons_of_mem _ hW)
            have hlli : ∀ i (h : i < ll.length), ll[i].length ≤ 600 := fun i h => hpl _ (by rw [hll]; exact List.mem_cons_of_mem _ (List.getElem_mem h))
            have hLi : ∀ i (h : i < ll.length), (ll.map wordsOf)[i]'(by rw [hLl]; exact h) = wordsOf ll[i] := fun i h => List.getElem_map ..
            generalize hLdef : ll.map wordsOf = L at hLl hsmL hchL hLi hrd
            rw [hll] at hp3
            generalize hxs' : ((l0 :: ll).map mkS).map V.str = xs at hp3 hkk
            have hxi : ∀ i (h : i < ll.length), xs[1 + i]? = some (.str (mkS ll[i])) := fun i h => by
              rw [← hxs', Nat.add_comm, List.getElem?_map, List.getElem?_map, List.getElem?_cons_succ, List.getElem?_eq_getElem h]; rfl
            refine ⟨_, rfl, _, _, rfl, Or.inl ⟨_, SqL.of hp3, rfl⟩, 1, _, rfl, ⟨by decide, by decide, by omega, by omega⟩, for_it walk_range (fun i σ H3 => ∃ (v5 v6 v7 v8 v9 : Option V) (qs : List Addr), σ = [some (.str text), some (.ref p), some (.ref r), some (.ref D), some (.ref G), v5, v6, v7, v8, v9] ∧
              H3 D = some (.lst (qs.map V.ref)) ∧ Forall2 (RowAt H3) qs ((L.take i).map (psOf wz.length L.length)) ∧ (∀ q ∈ qs, q ≠ D ∧ q ≠ G) ∧ H3 G = some (.lst (((L.take i).map (enOf wz.length L.length)).map V.int)) ∧ (∀ ws ∈ L.take i, (stateW wz.length L.length ws).isNone = false) ∧ Same H H3 ∧ H3 p = some (.lst xs) ∧ H3 r = some (.lst ([wt, wz].map wordV)))
              ⟨none, none, none, none, none, [], rfl, hD3, ⟨rfl, fun i x y e1 e2 => nomatch e1⟩, (fun q hq => nomatch hq), hG3, (fun w hw => nomatch hw), sH3, hp3, hr3⟩ (fun _ _ _ _ _ => trivial) ?_ ?_⟩
            · rintro i x σ H4 H5 hi ⟨v5, v6, v7, v8, v9, qs0, rfl, hD4, hf4, hne, hG4, hall, s4, hp4, hr4⟩ ⟨rfl, rfl⟩
              have hiL : i < ll.length := by omega
              have hi' : i < L.length := by omega
              have hLe := hLi i hiL
              refine ⟨_, rfl, _, rfl, p, _, _, .str (mkS ll[i]), rfl, rfl, SqL.of hp4, at_of' (show (1 : Int) + (i : Nat) = ((1 + i : Nat) : Int) by omega) (hxi i hiL), mkS ll[i], rfl, by rw [TL.len_tl, tl_mkS]; exact hlli i hiL, fun r1 H6 s6 hr1n hr1 => ?_⟩
              rw [tl_mkS, ← hLe] at hr1
              obtain ⟨hwn, hwu⟩ := hsmL _ (List.getElem_mem hi')
              have hwch := hchL _ (List.getElem_mem hi')
              have htl : (L.take i).length = i := by rw [List.length_take]; omega
              have hD6 := s6 _ _ hD4
              have hG6 := s6 _ _ hG4
              have hp6 := s6 _ _ hp4
              have hr6 := s6 _ _ hr4
              have hzs : (mkS wz).length ≤ sizeLine := Nat.le_of_lt (small1000 (by omega))
              have hnn : ((xs.length : Nat) : Int) - 1 = (L.length : Nat) := by omega
              have fin : stateW wz.length L.length L[i] = none → readC (TL.tl text) = .bad (i + 2) := fun hno => by
                have hfi : (L.findIdx? fun ws => (stateW wz.length L.length ws).isNone) = some i := by
                  refine List.findIdx?_eq_some_iff_getElem.mpr ⟨hi', by rw [hno]; rfl, fun j hj => ?_⟩
                  have := hall L[j] (List.mem_take_iff_getElem.mpr ⟨j, by omega, rfl⟩)
                  simp [this]
                rw [hfi] at hrd
                exact hrd
              have out : stateW wz.length L.length L[i] = none → ∀ H', Same H H' → Q (.int ((1 : Int) + (i : Nat) + 1)) H' := fun hno H' sx => by
                have := kb (i + 2) (fin hno) H' sx
                rwa [show ((i + 2 : Nat) : Int) = (1 : Int) + (i : Nat) + 1 by omega] at this
              have s06 := s4.trans s6
              refine ⟨_, rfl, _, _, rfl, Or.inl ⟨_, SqL.of hr1, rfl⟩, _, rfl, r, _, 1, .str (mkS wz), rfl, rfl, SqL.of hr6, at_of' (show (1 : Int) = ((1 : Nat) : Int) from rfl) rfl, _, _, rfl, ⟨hzs, rfl⟩, _, _, rfl, rfl, rfl, _, rfl, ?_⟩
              rw [hml, List.length_map]
              generalize hWi : L[i] = ws at hwn hwu hwch fin out hr1
              by_cases hlen : ws.length = wz.length + 1
              · refine ite2 (fun c => absurd c (by simp; omega)) (fun _ => ?_)
                obtain ⟨A', u, rfl⟩ : ∃ A' u, ws = A' ++ [u] := by
                  cases ws with
                  | nil => cases hlen
                  | cons p l => exact ⟨(p :: l).dropLast, (p :: l).getLast (List.cons_ne_nil _ _), (List.dropLast_concat_getLast _).symm⟩
                obtain ⟨hul, hun⟩ := hwu u (List.mem_append_right _ List.mem_cons_self)
                obtain ⟨c0, u', rfl⟩ : ∃ c0 u', u = c0 :: u' := by
                  cases u with
                  | nil => exact absurd rfl hun
                  | cons a b => exact ⟨a, b, rfl⟩
                have elast : lastW (A' ++ [c0 :: u']) = c0 :: u' := by unfold lastW; rw [List.getLastD_eq_getLast?, List.getLast?_concat]; rfl
                have edrop : (A' ++ [c0 :: u']).dropLast = A' := List.dropLast_concat
                have hst : stateW wz.length L.length (A' ++ [c0 :: u']) = if (A' ++ [c0 :: u']).length = wz.length + 1 ∧ (c0 :: u').head? = some 46 ∧ A'.all (someP L.length) = true ∧ (numW (c0 :: u').tail).isSome = true then some (A'.map (fun w => (pairW L.length w).getD (0, 0)), (numW (c0 :: u').tail).getD 0) else none := by
                  unfold stateW
                  rw [elast, edrop]
                have hus : (mkS (c0 :: u')).length ≤ sizeLine := Nat.le_of_lt (small1000 (by rw [TL.len_tl, tl_mkS]; omega))
                have hAl : A'.length = wz.length := by simpa using hlen
                have hA'l : A'.length ≤ 700 := by rw [List.length_append] at hwn; omega
                have hcut : cutV ((A' ++ [c0 :: u']).map wordV) none (some (-1)) = A'.map wordV := by rw [List.map_append]; exact cut_last
                have hatl : atI ((A' ++ [c0 :: u']).map wordV) (-1) = some (wordV (c0 :: u')) := by rw [List.map_append]; exact atI_last _ _
                have ecut : cutS (mkS (c0 :: u')) none (some 1) = sg c0 := TL.ext_tl (by
                  rw [show (1 : Int) = ((1 : Nat) : Int) from rfl, cut_to (by rw [TL.len_tl, tl_mkS]; exact Nat.succ_pos _), tl_mkS]; rfl)
                have e46 : (sg c0 = ".") ↔ c0 = 46 := ⟨fun q => sg_inj (q : sg c0 = sg 46), fun q => by rw [q]; rfl⟩
                refine ⟨_, rfl, _, rfl, r1, _, -1, wordV (c0 :: u'), rfl, rfl, SqL.of hr1, hatl, _, rfl, mkS (c0 :: u'), rfl, hus, rfl, _, rfl, ?_⟩
                rw [ecut]
                by_cases hc : c0 = 46
                · refine ite2 (fun c => absurd c (by rw [e46.mpr hc]; simp)) (fun _ => ?_)
                  refine ⟨_, rfl, _, rfl, _, rfl, r1, _, rfl, SqL.of hr1, fun L1 hL1 => ?_⟩
                  rw [hcut]
                  have s7 : Same H6 (L2.upd H6 L1 (.lst (A'.map wordV))) := same_new hL1
                  have hL17 : (L2.upd H6 L1 (.lst (A'.map wordV))) L1 = some (.lst (A'.map wordV)) := upd_same
                  generalize L2.upd H6 L1 (.lst (A'.map wordV)) = H7 at s7 hL17 ⊢
                  refine ⟨L1, _, rfl, Or.inl (SqL.of hL17), fun J hJ R hR => lc_it hJ (fun j H2 => ∃ vs : List V, H2 R = some (.lst vs) ∧ Forall2 (OptAt H6 H2) vs ((A'.take j).map (pairW L.length)) ∧ Same H7 H2) ⟨[], upd_same, ⟨rfl, fun i x y e1 e2 => nomatch e1⟩, same_new hR⟩ (fun j H2 _ ⟨_, _, _, s2⟩ => GSq.same s2) ?_ ?_⟩
                  · rintro j x H3 H8 hj ⟨vs, hR8, hf, s8⟩ ⟨rfl, hx⟩
                    rw [List.length_map] at hj
                    obtain rfl : V.str (mkS A'[j]) = x := by
                      rw [List.getElem?_map, List.getElem?_eq_getElem hj] at hx
                      exact Option.some.inj hx
                    obtain ⟨hwl, _⟩ := hwu A'[j] (List.mem_append_left _ (List.getElem_mem hj))
                    have hwc := hwch A'[j] (List.mem_append_left _ (List.getElem_mem hj))
                    have hvl : vs.length = j := by rw [hf.1, List.length_map, List.length_take]; omega
                    have fin2 : ∀ (v : V) (H3 : Hp), Same H8 H3 → OptAt H6 H3 v (pairW L.length A'[j]) → ∃ acc, H3 R = some (.lst acc) ∧ acc.length < sizeLine ∧ ∃ vs : List V, (L2.upd H3 R (.lst (acc ++ [v]))) R = some (.lst vs) ∧ Forall2 (OptAt H6 (L2.upd H3 R (.lst (acc ++ [v])))) vs ((A'.take (j + 1)).map (pairW L.length)) ∧ Same H7 (L2.upd H3 R (.lst (acc ++ [v]))) := fun v H3 s3 ho => by
                      have hD3 := s3 _ _ hR8
                      refine ⟨_, hD3, small1000 (by omega), vs ++ [v], upd_same, ?_, (s8.trans s3).put hR⟩
                      rw [take_more hj, List.map_append]
                      exact Forall2.snoc (hf.imp fun x y _ h => (h.same s3).put hD3) (ho.put hD3)
                    refine ⟨rfl, ?_⟩
                    refine lcYes ?_
                    refine ⟨_, rfl, _, rfl, _, _, rfl, Or.inl ⟨_, SqL.of (s8 _ _ (s7 _ _ hp6)), rfl⟩, _, _, rfl, rfl, mkS A'[j], L.length, congrArg (fun z => [V.str (mkS A'[j]), V.int z]) hnn, by rw [TL.len_tl, tl_mkS]; exact hwl, by rw [tl_mkS]; exact hwc, fun hno H3 s3 => ?_, fun g b hgb t H3 s3 htn ht => ?_⟩
                    · rw [tl_mkS] at hno
                      exact fin2 .non H3 s3 (by rw [hno]; rfl)
                    · rw [tl_mkS] at hgb
                      exact fin2 (.ref t) H3 s3 (by rw [hgb]; exact ⟨t, rfl, ht, (s7.trans s8).free htn⟩)
                  · rintro H8 ⟨vs, hR8, hf, s8⟩
                    rw [List.length_map, List.take_length] at hf
                    have s68 := s7.trans s8
                    refine ⟨_, rfl, _, rfl, r1, _, -1, wordV (c0 :: u'), rfl, rfl, SqL.of (s68 _ _ hr1), hatl, _, rfl, mkS (c0 :: u'), rfl, hus, Or.inr ⟨cutS (mkS (c0 :: u')) (some 1) none, rfl, ?_, ?_, fun H9 s9 => ⟨_, _, rfl, ?_⟩⟩⟩
                    · have := cut_from_len (z := mkS (c0 :: u')) (j := 1)
                      rw [TL.len_tl (mkS _), tl_mkS] at this
                      exact Nat.le_trans this (by omega)
                    · intro c hc'
                      have := cutS_sub c hc'
                      rw [tl_mkS] at this
                      exact hwch (c0 :: u') (List.mem_append_right _ List.mem_cons_self) c this
                    rw [show (1 : Int) = ((1 : Nat) : Int) from rfl, cut_from (by rw [TL.len_tl, tl_mkS]; exact Nat.succ_pos _), tl_mkS, List.drop_one, List.tail_cons]
                    have s69 := s68.trans s9
                    have hR9 := s9 _ _ hR8
                    have hf9 := hf.imp fun x y _ h => h.same s9
                    have hdp : Dp K H9 (.ref R) (.list ((A'.map (pairW L.length)).map optD)) := .lst (SqL.of hR9) (dpAll_opt hf9.1 fun i v o h1 h2 => hf9.2 i v o h1 h2)
                    refine ⟨_, rfl, .none, _, .non, hdp, shaped_none, shaped_optD _, _, rfl, ?_⟩
                    rw [any_optD, any_isN]
                    by_cases hall2 : A'.all (someP L.length) = true
                    · refine ite2 (fun c => absurd c (by rw [hall2]; decide)) (fun _ => ?_)
                      refine ⟨_, rfl, rfl, _, rfl, ?_⟩
                      cases hnu : numW u' with
                      | none =>
                        have o := out (by rw [hst]; exact if_neg fun q => by rw [List.tail_cons, hnu] at q; cases q.2.2.2) H9 (s06.trans s69)
                        exact ite2 (fun _ => ⟨_, rfl, _, _, rfl, rfl, o⟩) (fun c => absurd (by simp [numV]) c)
                      | some e =>
                        refine ite2 (fun c => absurd c (by simp [numV])) (fun _ => ?_)
                        have hst2 : stateW wz.length L.length (A' ++ [c0 :: u']) = some (A'.map (fun w => (pairW L.length w).getD (0, 0)), e) := by
                          rw [hst, List.tail_cons, hnu]
                          exact if_pos ⟨hlen, by rw [hc]; rfl, hall2, rfl⟩
                        obtain ⟨ts, rfl, hts⟩ := opt_row vs A' hall2 hf9
                        have hrow : RowAt H9 R (A'.map fun w => (pairW L.length w).getD (0, 0)) := ⟨ts, hR9, hts⟩
                        have hD9 := s69 _ _ hD6
                        have hG9 := s69 _ _ hG6
                        have hRn6 : H6 R = none := s7.free hR
                        have nRD : R ≠ D := (ne_of_none hD6 hRn6).symm
                        have nRG : R ≠ G := (ne_of_none hG6 hRn6).symm
                        have hql : qs0.length = i := by rw [hf4.1, List.length_map, htl]
                        refine ⟨_, rfl, Or.inl ⟨rfl, _, SqL.of hD9⟩, _, rfl, D, _, _, rfl, rfl, hD9, small1000 (by rw [List.length_map]; omega), ?_⟩
                        have hG10 : (L2.upd H9 D (.lst (qs0.map V.ref ++ [.ref R]))) G = some (.lst (((L.take i).map (enOf wz.length L.length)).map V.int)) := by rw [upd_ne nGD]; exact hG9
                        refine ⟨_, rfl, Or.inl ⟨rfl, _, SqL.of hG10⟩, _, rfl, G, _, _, rfl, rfl, hG10, small1000 (by rw [List.length_map, List.length_map]; omega), ?_⟩
                        have hpe : psOf wz.length L.length L[i] = A'.map fun w => (pairW L.length w).getD (0, 0) := by unfold psOf; rw [hWi, hst2]; rfl
                        have hee : enOf wz.length L.length L[i] = (e : Int) := by unfold enOf; rw [hWi, hst2]; rfl
                        refine ⟨_, _, _, _, _, qs0 ++ [R], rfl, by rw [upd_ne nGD.symm, upd_same, List.map_append]; rfl, ?_, fun q hq => ?_, ?_, fun ws hws => ?_, ((s06.trans s69).put hD0).put hG0, by rw [upd_ne npG, upd_ne npD]; exact s69 _ _ hp6, by rw [upd_ne nrG, upd_ne nrD]; exact s69 _ _ hr6⟩
                        · have mv : ∀ (a : Addr) (pp : List (Nat × Nat)), RowAt H9 a pp → a ≠ D → a ≠ G → RowAt (L2.upd (L2.upd H9 D (.lst (qs0.map V.ref ++ [.ref R]))) G (.lst (((L.take i).map (enOf wz.length L.length)).map V.int ++ [.int (e : Nat)]))) a pp := fun a pp h n1 n2 => by
                            have h1 : RowAt (L2.upd H9 D (.lst (qs0.map V.ref ++ [.ref R]))) a pp := h.move (fun b u e nb => by rw [upd_ne nb]; exact e) hD9 n1
                            exact h1.move (fun b u e nb => by rw [upd_ne nb]; exact e) hG10 n2
                          rw [take_more hi', List.map_append]
                          refine Forall2.snoc ⟨hf4.1, fun k x y e1 e2 => ?_⟩ ?_
                          · obtain ⟨n1, n2⟩ := hne x (List.mem_of_getElem? e1)
                            exact mv x y (((hf4.2 k x y e1 e2).same s6).same s69) n1 n2
                          · rw [hpe]
                            exact mv R _ hrow nRD nRG
                        · rcases List.mem_append.mp hq with h | h
                          · exact hne q h
                          · rw [List.mem_singleton.mp h]; exact ⟨nRD, nRG⟩
                        · rw [upd_same, take_more hi', List.map_append, List.map_append, List.map_singleton, hee]; rfl
                        · rw [take_more hi'] at hws
                          rcases List.mem_append.mp hws with h | h
                          · exact hall ws h
                          · rw [List.mem_singleton.mp h, hWi, hst2]; rfl
                    · refine ite2 (fun _ => ?_) (fun c => absurd (by simpa using hall2) c)
                      exact ⟨_, rfl, _, _, rfl, rfl, out (by rw [hst]; exact if_neg fun q => hall2 q.2.2.1) H9 (s06.trans s69)⟩
                · refine ite2 (fun _ => ?_) (fun c => absurd (by simp; exact fun q => hc (e46.mp q)) c)
                  refine ⟨_, rfl, _, _, rfl, rfl, out (by rw [hst]; exact if_neg fun q => hc (by have := q.2.1; simpa using this)) _ s06⟩
              · refine ite2 (fun _ => ?_) (fun c => absurd (by simp; omega) c)
                exact ⟨_, rfl, _, _, rfl, rfl, out (by unfold stateW; exact if_neg fun q => hlen q.1) _ s06⟩
            · rintro σ H4 ⟨v5, v6, v7, v8, v9, qs, rfl, hD4, hf4, hne, hG4, hall, s4, hp4, hr4⟩
              rw [show (((xs.length : Nat) : Int) - 1).toNat = L.length by omega, List.take_length] at hf4 hG4 hall
              have hfi : (L.findIdx? fun ws => (stateW wz.length L.length ws).isNone) = none := List.findIdx?_eq_none_iff.mpr fun ws hws => hall ws hws
              rw [hfi] at hrd
              have hRw : Dp K H4 (.ref D) (rowsD ((L.map (psOf wz.length L.length)).map rowN)) := Dp.lst (SqL.of hD4) (dpAll_rows hf4.1 hf4.2)
              have hEn : Dp K H4 (.ref G) (intsD (L.map (enOf wz.length L.length))) := Dp.lst (SqL.of hG4) (dpAll_ints K H4 _)
              have hgd := goodC_of (by omega) hall
              rw [← hml] at hgd
              refine ⟨_, rfl, r, _, 1, .str (mkS wz), rfl, rfl, SqL.of hr4, at_of' (show (1 : Int) = ((1 : Nat) : Int) from rfl) rfl, _, rfl, _, rfl, fun x dx hx hdx ne => mk_okC hx hdx ne (Or.inl (by rw [hml]; exact hRw)) (Or.inl (by rw [hml]; exact hEn)) hgd (by omega) (by rw [List.length_map, List.length_map]; omega) (fun H4 s5 hM => ⟨rfl, ks wz _ _ hrd x _ (s4.trans s5) (by rw [hml] at hM; exact hM)⟩)⟩
        · refine ite2 (fun _ => ?_) (fun c => absurd (by simp [hz]) c)
          rw [if_neg fun q => hz q.2] at hrd
          exact kb 1 hrd _ sH3
      · refine ite2 (fun _ => ?_) (fun c => absurd (by simpa using fun q => ht (ett.mp q)) c)
        rw [if_neg fun q => ht q.1] at hrd
        exact kb 1 hrd _ sH
    · refine ite2 (fun _ => ?_) (fun c => absurd (by rw [List.length_map]; simp; omega) c)
      rw [headZ_none hW] at hrd
      exact kb 1 hrd _ sH
end
end Vf
set_option Elab.async false
set_option linter.all false
set_option maxRecDepth 100000
set_option maxHeartbeats 4000000
/-! C(..) in a try: what is raised is wished for at the caller's slots -/
namespace L2
open PySem PySem.Spec PyProof.Rows
section
variable {X : Cx} {CX : CXT} {k : Nat} {f C : Addr} {fd : FuncData} {ps : List Str} {sp : Sp} {dvs : List V} {ds : List Value} {E : St → XK} {x : Str} {p pos : Pos} {e : Expr} {es : List Expr} {t : TA}
theorem run_makeV {pins : List (Addr × Obj)} {σ : St} {H : Hp} {s : Shared} {Q : VK} {us : List Value} {vs : List V} (M : Mk X.K C f) (F : FnOk X.prog X.w X.K X.mg X.base CX k f fd ps sp) (hr : Room (k + 1) X.A) (hb : Binds X.K fd ps ds) (hd : Vals dvs ds)
    (hx : PassesAt CX X σ (E σ)) (I : Inv X pins σ H s) (r : Vals vs us)
    (h : ∀ x dx, H x = none → H dx = none → dx ≠ x → sp (.ref x :: (vs ++ dvs)) (upd (upd H dx (.own x)) x (.ins C dx [])) (fun v H2 => v = .non ∧ Q (.ref x) H2) (E σ)) :
    wpAny (model X.prog X.w) X.A (call (.ref C) us) (EP X pins σ Q) X.xe s := by
  have hq := h (s.heap.objs.size + 1) s.heap.objs.size (I.hok.fresh (Nat.le_succ _)) (I.hok.fresh (Nat.le_refl _)) (Nat.ne_of_lt (Nat.lt_succ_self _))
  have I2 := Inv.made (C := C) I
  have r2 : Vals (V.ref (s.heap.objs.size + 1) :: (vs ++ dvs)) (Value.ref (s.heap.objs.size + 1) :: (us ++ ds)) := .cons rfl (r.append hd)
  have hl : (Value.ref (s.heap.objs.size + 1) :: us ++ ds).length = ps.length := by
    have e := r2.length
    rw [F.len _ _ _ _ hq] at e
    exact e.symm
  refine wpAny_call (make_map (f := f) I.kIn M.makes M.init (beq_iff_eq.mp M.fn) (codeAny_mono (F.run _ X.stack _ _ ⟨Value.ref (s.heap.objs.size + 1) :: us, []⟩ (Value.ref (s.heap.objs.size + 1) :: (us ++ ds)) _ _ (E σ) (hr.make C us [])
    (I2.env0.make C us []) (hb _ (Value.ref (s.heap.objs.size + 1) :: us) I2.kIn hl) r2 hq) fun r s' hq' => ?_))
  cases r with
  | error e => exact hx pins _ _ e s' I2 hq'
  | ok fl =>
    cases fl with
    | ret u =>
      obtain ⟨v, H', I3, rv, ev, q3⟩ := I2.after hq'
      subst ev
      exact ⟨rv, ⟨V.ref (s.heap.objs.size + 1), H', I3, rfl, q3⟩⟩
    | next => exact False.elim hq'
    | brk => exact False.elim hq'
    | cont => exact False.elim hq'
def tMakeV (C : Addr) (sp : Sp) (dvs : List V) (E : St → XK) (t : TA) : TE := fun σ H Q => t σ H fun vs H1 => ∀ x dx, H1 x = none → H1 dx = none → dx ≠ x →
  sp (.ref x :: (vs ++ dvs)) (upd (upd H1 dx (.own x)) x (.ins C dx [])) (fun v H2 => v = .non ∧ Q (.ref x) H2) (E σ)
theorem pe_makeV (M : Mk X.K C f) (F : FnOk X.prog X.w X.K X.mg X.base CX k f fd ps sp) (hr : Room (k + 1) X.A) (hg : Gl X x) (hm : X.mg x = some (.ref C)) (hb : Binds X.K fd ps ds) (hd : Vals dvs ds) (hx : ∀ σ, PassesAt CX X σ (E σ))
    (ha : PA X (e :: es) t) (hdb : (x == ("__debug__" : Str)) = false := by decide) (he : starEach (e :: es) X.env = (false, eval e X.env) :: starEach es X.env := by rfl) (hpl : (backTo pos (starEach es X.env)).any (·.1) = false := by rfl) :
    PE X (.Call (.Name x p) (e :: es) [] pos) (tMakeV C sp dvs E t) := by
  refine ⟨fun pins s σ H Q I h => ?_⟩
  refine wpAny_Call_Name_kw (ld_glob I hg hm ?_ hdb)
  refine PySem.W.callWith_K (h₀ := X.base) I.ok.mod.kin M.kp (thn (ha.run pos pins s σ H _ I h) fun us s1 ⟨vs, H1, I1, r, q⟩ => ⟨I1.kIn, ?_⟩) he hpl
  exact run_makeV M F hr hb hd (hx σ) I1 r q
end
end L2
set_option Elab.async false
set_option linter.all false
set_option maxRecDepth 100000
set_option maxHeartbeats 4000000
/-! C.m(..), m a classmethod, in a try: what is raised is wished for at the caller's slots -/
namespace L2
open PySem PySem.Spec PyProof.Rows
open ClX
section
variable {X : Cx} {CX : CXT} {k : Nat} {C p g : Addr} {mc : Value} {sp : Sp} {E : St → XK} {o e : Expr} {es : List Expr} {f m : Str} {pos apos : Pos} {ta : TE} {t : TA} {pl : Sem Bool}
theorem run_cmV {pins : List (Addr × Obj)} {σ : St} {H : Hp} {s : Shared} {q : Addr} {Q : VK} {us : List Value} {vs : List V} (F : FnR X.prog X.w X.K X.mg X.base CX k g sp) (hr : Room k X.A) (hx : PassesAt CX X σ (E σ)) (I : Inv X ((q, PySem.W.methodObj (.ref g) (.ref C)) :: pins) σ H s)
    (r : Vals vs us) (h : sp (.ref C :: vs) H Q (E σ)) : wpAny (model X.prog X.w) X.A (call (.ref q) us) (EP X pins σ Q) X.xe s := by
  have z : wpAny (model X.prog X.w) X.A (call (.ref q) us) (EP X ((q, PySem.W.methodObj (.ref g) (.ref C)) :: pins) σ Q) X.xe s := by
    refine wpAny_call (PySem.W.method_call (pin_at I) (codeAny_mono (F X.A X.stack s H (.ref C :: us) (.ref C :: vs) Q (E σ) hr I.env0 (.cons rfl r) h) fun r s' hq => ?_))
    cases r with
    | error e => exact hx _ _ _ e s' I hq
    | ok fl =>
      cases fl with
      | ret u => exact I.after hq
      | next => exact False.elim hq
      | brk => exact False.elim hq
      | cont => exact False.elim hq
  exact thn z fun _ _ y => unpinE y
def tCMethV (C : Addr) (sp : Sp) (E : St → XK) (ta : TE) (t : TA) : TE := fun σ H Q => ta σ H fun x H1 => x = .ref C ∧ t σ H1 fun vs H2 => sp (.ref C :: vs) H2 Q (E σ)
theorem pe_cmethV (he : PE X o ta) (r : CRead X.K C mc) (c : CMet X.K C mc m p g) (F : FnR X.prog X.w X.K X.mg X.base CX k g sp) (hr : Room k X.A) (hx : ∀ σ, PassesAt CX X σ (E σ)) (ha : PA X (e :: es) t)
    (hst : starEach (e :: es) X.env = (false, eval e X.env) :: starEach es X.env := by rfl) (hpl : (backTo pos (starEach es X.env)).any (·.1) = false := by rfl)
    (ht : eval (.Call (.Attribute o m apos) (e :: es) [] pos) X.env = (do
      let ov ← eval o X.env
      standAt apos.atName
      let (f, first) ← holding [ov] (getMethod ov m pl)
      callWith pos f first (backTo pos (starEach (e :: es) X.env)) (backToKw pos (keywordEach [] X.env))) := by rfl) :
    PE X (.Call (.Attribute o m apos) (e :: es) [] pos) (tCMethV C sp E ta t) := by
  refine ⟨fun pins s σ H Q I h => ?_⟩
  refine PySem.W.methodCall_KW (pl := pl) (thn (he.run pins s σ H _ I h) fun u s1 ⟨x, H1, I1, rx, ex, q⟩ => ?_) ht
  subst ex
  obtain rfl : u = Value.ref C := rx
  refine getmethcm_ok I1 r c fun s2 I2 => ?_
  refine callwith_cm I2 (base_none I1 (Nat.le_refl _)) c.fi (thn (ha.run pos _ s2 σ H1 _ I2 q) fun us s3 ⟨vs, H2, I3, rv, q2⟩ => ⟨⟨pin_at I3, I3.kIn⟩, ?_⟩) hst hpl
  exact run_cmV F hr (hx σ) I3 rv q2
end
end L2
set_option Elab.async false
set_option linter.all false
set_option maxRecDepth 100000
set_option maxHeartbeats 4000000
/-! isinstance of a caught error of an own class, with or without fields -/
namespace Vf
open PySem
/-! where lambdas stand: in lists, in expressions that are statements -/
def lstN : PySem.Expr → Nat → PySem.Expr
  | .List es _, i => es.getD i (.Constant .none 0 ⟨0, 0, 0, 0⟩)
  | e, _ => e
def stExp : Stmt → PySem.Expr
  | .Expr v _ => v
  | _ => .Constant .none 0 ⟨0, 0, 0, 0⟩
end Vf
namespace Vf
open PySem PySem.Spec PySem.Calls PyProof.Rows PySem.W
section
variable {prog : Program} {w : World} {A : Around} {K : PySem.W.Frag} {x D : Addr} {ox : Obj} {od : Option Obj}
/-- a data descriptor of the class goes ahead of what the instance's dict holds -/
theorem found_desc {name : Str} {a g : Value} (hc : (clsIn K D).isSome = true) (ha : findIn K (.ref D) name = some (some a)) (hg : specialIn K a "__get__" = some (some g)) (ht : takesIn K a = some true) : findObj K D od name = some (.bind g a) := by
  obtain ⟨cd, hc⟩ := Option.isSome_iff_exists.mp hc
  simp only [findObj, hc, Option.bind_some, ha, hg, ht]
theorem class_of_exc {E : Value → Shared → Prop} {s : Shared} {Q : Option Value → Shared → Prop} (C : L2.ExcC K D) (X : K.In s.heap) (I : InstAt s.heap x ox D od) (h : Q (some (.ref D)) { s with toks := s.toks + 1 }) :
    wpAny (model prog w) A (getAttr? (.ref x) "__class__") Q E s := by
  have hf : findObj K D od "__class__" = some (.bind (.builtin "getset_descriptor.__get__") (.builtin "object.__class__")) := found_desc (by obtain ⟨cd, hc, _⟩ := any_some C.hd; simp [hc]) C.ha C.hn C.ht
  have hm := C.hm
  obtain ⟨hp, g, d, t, os⟩ := s
  have M0 : Looks (model prog w) hp (typeOf (.ref x)) (.ref D) := I.type
  have M1 := looks_findIn (M := model prog w) X C.hg
  have M2 := looks_findIn (M := model prog w) X C.hk
  have M3 := looks_find (M := model prog w) X I hf
  have isEx : Looks (model prog w) hp (isInstance (.ref x) (.type "BaseException")) true := M0.andThen (looks_subIn X C.hs)
  have b0 : (false && onTheHeap (Value.builtin "BaseException.__getattribute__")) = false := rfl
  have b1 : (Value.builtin "BaseException.__getattribute__" == Value.builtin "object.__getattribute__") = false := by decide +kernel
  have b2 : (onTheHeap (Value.ref D) && Value.builtin "BaseException.__getattribute__" == Value.builtin "object.__getattribute__") = false := by simp [b1]
  unfold getAttr? getAttrBy? getAttrBy
  refine wpAny_bind (wpAny_mkText (wpAny_bind (wpAny_attempt (wpAny_holding (wpAny_bind (M0.at (wpAny_bind (M1.at ?_))))))))
  show wpAny (model prog w) A (if (onTheHeap (Value.ref D) && Value.builtin "BaseException.__getattribute__" == Value.builtin "object.__getattribute__") = true then _ else _) _ _ _
  rw [b2, if_neg Bool.false_ne_true]
  unfold getAttrByItsOwn hookBefore
  refine wpAny_bind ?_
  rw [if_pos (show onTheHeap (Value.ref D) = true by rfl)]
  refine M2.at (wpAny_bind (wpAny_attempt (wpAny_holding ?_)))
  unfold callGetattribute
  rw [b0, if_neg Bool.false_ne_true]
  unfold boundAndCalled
  rw [PySem.F.excAttr_ValueError.ga.bind (.ref x)]
  refine wpAny_bind (wpAny_pure ?_)
  show wpAny (model prog w) _ (call (.builtin "BaseException.__getattribute__") [.ref x, .str "__class__" t]) _ _ _
  refine wpAny_call (codeAny_call_builtin PySem.F.excAttr_ValueError.ga.plain PySem.F.entry_bexc_ga (@check_slot (model prog w) _ _ ⟨hp, g, d, t + 1, os⟩ "BaseException.__getattribute__" "BaseException" "__getattribute__" (.ref x) [.str "__class__" t] [] _ (by decide +kernel) (by decide +kernel) isEx (PySem.F.args_bexc_ga (.ref x) (.str "__class__" t)) ?_))
  unfold Builtin.«object.__getattribute__»
  refine wpAny_bind (wpAny_of_eq (a := ((Value.ref x : Value), [Value.str "__class__" t])) (by first | rfl | (simp only [slotArgs]; rfl)) (wpAny_bind (wpAny_pure (wpAny_bind (M0.at (wpAny_bind (M3.at ?_)))))))
  show wpAny (model prog w) _ (holding [Value.builtin "object.__class__"] (call (.builtin "getset_descriptor.__get__") [.builtin "object.__class__", .ref x, .ref D]) >>= ret) _ _ _
  refine wpAny_bind (wpAny_holding (wpAny_call (class_get (s := ⟨hp, g, d, t + 1, os⟩) (ox := ox) (od := od) X I hm (wpAny_pure ?_))))
  show wpAny (model prog w) _ (handedOut (.ref D)) _ _ _
  rw [handedOut_of (v := .ref D) rfl]
  first | exact wpAny_pure (wpAny_pure h) | exact wpAny_pure h | exact wpAny_pure (wpAny_bind (wpAny_pure (wpAny_pure h)))
theorem kit_exc (C : L2.ExcC K D) : KitX K (.ref x) (.ref D) (fun h => InstAt h x ox D od) where
  ty := fun M h X I => I.type
  it := fun M h X I => by
    obtain ⟨cd, hc, _⟩ := any_some C.hd
    unfold clsIn at hc
    split at hc
    · rename_i c' d' cd' sl' ho
      intro A' Q' E' s' k q
      unfold isType loadHead
      exact wpAny_bind (wpAny_loadPart (k _ _ (X _ _ ho)) (wpAny_pure q))
    · cases hc
  ne := fun h tp dd its n sl X htp => by
    obtain ⟨cd, hc, _⟩ := any_some C.hd
    refine beq_eq_false_iff_ne.mpr fun q => ?_
    have e : D = tp := Value.ref.inj q
    subst e
    unfold clsIn at hc
    split at hc
    · rename_i c' d' cd' sl' ho
      have := (X _ _ ho).symm.trans htp
      cases this
    · cases hc
  ca := fun X I k => class_of_exc C X I k
end
end Vf
namespace L2
open PySem PySem.Spec PyProof.Rows
/-- isinstance(e, c), e the exception that the suite holds: with a dict, or without -/
def rIsX (K : PySem.W.Frag) (a : Addr) (cls : Value) (d : Option Addr) : List V → Hp → VK → Prop := fun xs H Q => ∃ (D : Addr) (c : V) (cv : Value) (b : Bool), cls = .ref D ∧ ExcC K D ∧ (d = none ∨ ∃ (dd : Addr) (fs : List (Str × V)), d = some dd ∧ H dd = some (.xd fs)) ∧
  xs = [.ref a, c] ∧ (∀ u, RelV c u → u = cv) ∧ PySem.W.kitOne K (.ref D) cv = some b ∧ Q (.bl b) H
theorem call_isX {X : Cx} {a : Addr} {cls : Value} {d : Option Addr} {oe : Obj} {pn : List (Addr × Obj)} (hz : Zc cls d oe) (hf : ∃ vs, oe.data = .fields vs) : CallR (X.suite a ((a, oe) :: pn)) (.builtin "isinstance") (rIsX X.K a cls d) := by
  intro pins s σ H xs us Q I r h
  obtain ⟨D, c, cv, b, rfl, C, hd, rfl, hcv, e, q⟩ := h
  cases r with
  | cons rx rr =>
    cases rr with
    | cons rt rr =>
      cases rr
      cases rx
      obtain rfl := hcv _ rt
      obtain ⟨hget, _⟩ := I.pin (a, oe) (List.mem_append_left _ List.mem_cons_self)
      obtain ⟨vs, hv⟩ := hf
      obtain ⟨od, J⟩ : ∃ od, PySem.W.InstAt s.heap a oe D od := by
        have hno : PySem.W.notCls oe = true := by unfold PySem.W.notCls; rw [hv] <;> rfl
        rcases hd with rfl | ⟨dd, fs, rfl, ea⟩
        · exact ⟨none, hget, hz.1, hno, by rw [hz.2]; trivial⟩
        · have hx : ObjOk X.prog X.w H s.heap dd (.xd fs) := I.hok dd _ ea
          obtain ⟨mA, hns, _⟩ := hx
          obtain ⟨od, ho, _⟩ := lookIn_ns hns
          exact ⟨some od, hget, hz.1, hno, by rw [hz.2]; exact ho⟩
      exact PySem.W.kia_one (Vf.kit_exc C) I.kIn J e (fun z => nomatch z) fun tk => ⟨.bl b, H, I.kept (t' := tk) fun _ _ z => z, rfl, q⟩
end L2
set_option Elab.async false
set_option linter.all false
set_option maxRecDepth 100000
set_option maxHeartbeats 4000000
namespace Vf
open PySem L2 PyProof.Rows
structure TxtTd (K : PySem.W.Frag) (mg : Str → Option Value) (C CT fT pR gR : Addr) (mc : Value) : Prop where
  bt : ErrT K mg "BadText" "line" CT fT
  mgCode : mg "Code" = some (.ref C)
  cr : ClX.CRead K C mc
  cm : ClX.CMet K C mc "read" pR gR
  te : PySem.W.exmOne K (.ref CT) (.ref CT) = some true
section
variable {P : Program} {w : World} {K : PySem.W.Frag} {mg : Str → Option Value} {base : Heap}
def spToldS (K : PySem.W.Frag) (C : Addr) : Sp := fun vs H Q _ => ∃ text : Str, vs = [.str text] ∧ text.length ≤ 600 ∧ (textL (TL.tl text)).length ≤ 60 ∧
  (∀ i, readC (TL.tl text) = .bad i → ∀ H', Same H H' → Q (.int (i : Nat)) H') ∧ (∀ z rs es, readC (TL.tl text) = .code z rs es → ∀ o H', Same H H' → CodeAt K C H' o (mkS z) rs es → Q (.ref o) H')
abbrev s__law_told : Stmt := top 32
abbrev N__law_told : List Str := ["_law_text", "_law_told_here", "e"]
abbrev P__law_told : List Str := ["_law_text"]
theorem sc__law_told : FnScope N__law_told P__law_told (defScope s__law_told) := ⟨rfl, rfl, rfl, by decide +kernel, rfl, by decide +kernel, by decide +kernel⟩

theorem ok_toldS {f C CT fT pR gR : Addr} {mc : Value} {fd : FuncData} (F : Fun K "_law_told" "_law_told" s__law_told f fd) (T : TxtTd K mg C CT fT pR gR mc) (GR : FnR P w K mg base (L2.CX P w) 6 gR (spRead K C CT)) : FnOk P w K mg base CX0 7 f fd P__law_told (spToldS K C) := by
  refine F.ok sc__law_told (fun vs H Q E h => ?_) (fun cdv A outer s H vs Q E hr h => ?_)
  · obtain ⟨text, rfl, _⟩ := h
    rfl
  · obtain ⟨text, rfl, hl, hl60, kb, ks⟩ := h
    refine ⟨_, pss_cons (ps_try_as (i := 2) (tb := fun W => tAsg (tCMethV C (spRead K C CT) (WE W) (tC (.ref C)) (tCons (tVar 0) tNil)) (gName 1)) (ts := fun a cls d => tRet (tXf a cls d CT "line" (tVar 2))) (Wout := fun _ _ _ _ => False) rfl rfl sc__law_told.nd rfl rfl ⟨rfl, by decide, Or.inl T.bt.g⟩ takes0
        (fun W pn xe tk _ => pss_one (ps_set (i := 1) sc__law_told.nd rfl (Or.inl rfl) (by exact (pe_cmethV (pe_glob (by rfl) T.mgCode (v := .ref C) rfl) T.cr T.cm GR (hr.mono (by decide)) (fun σ => passAt tk σ) (by exact (pa_cons (pv 0) pa_nil))))))
        (fun a oe cls d pn hz hf => pss_one (ps_ret (by exact (pe_xf T.bt.xf T.bt.nf hz hf (pv 2))))))
      (pss_one (ps_ret (pv 1))), ?_⟩
    refine ⟨rfl, _, rfl, text, rfl, hl, hl60, fun i hi d H' hd => ?_, fun z gs es hs o H' s hM => ?_⟩
    · refine ⟨true, T.te, fun _ a0 _ => ?_, fun q => Bool.noConfusion q⟩
      refine ⟨_, rfl, rfl, rfl, d, _, V.int i, rfl, hd.2.1, by simp [List.lookup], ?_⟩
      exact kb i hi H' hd.2.2
    · exact ⟨_, rfl, ks z gs es hs o H' s hM⟩
end
end Vf
set_option Elab.async false
set_option linter.all false
set_option maxRecDepth 100000
set_option maxHeartbeats 4000000
namespace Vf
open PySem L2 PyProof.Rows
theorem numL_head : ∀ (n : Nat), (TL.numL n).head? = some 48 → n = 0 := fun n => by
  induction n using Nat.strongRecOn with
  | _ n ih =>
    by_cases h : n < 10
    · rw [TL.numL_lt h]
      intro q
      have q : 48 + n = 48 := Option.some.inj q
      omega
    · rw [TL.numL_step (by omega)]
      intro q
      have hne := TL.numL_ne (n / 10)
      have e : (TL.numL (n / 10) ++ [48 + n % 10]).head? = (TL.numL (n / 10)).head? := by
        cases e : TL.numL (n / 10) with
        | nil => exact absurd e hne
        | cons a l => rfl
      rw [e] at q
      have := ih (n / 10) (by omega) q
      omega
theorem numW_num {n : Nat} (h : n < 10 ^ 40) : numW (TL.numL n) = some n := by
  have hd := TL.numL_digits n
  have hc : (TL.numL n).all isDig = true ∧ TL.numL n ≠ [] ∧ (TL.numL n).length ≤ 4000 ∧ ((TL.numL n).head? = some 48 → TL.numL n = [48]) := by
    refine ⟨List.all_eq_true.mpr fun c hc => ?_, TL.numL_ne n, Nat.le_trans (TL.numL_len (by decide) h) (by decide), fun q => ?_⟩
    · have := hd c hc
      unfold isDig
      rw [Bool.and_eq_true, decide_eq_true_eq, decide_eq_true_eq]
      exact this
    · have := numL_head n q
      rw [this]
      rfl
  unfold numW
  rw [if_pos hc, TL.numL_val]
def pairWs (gb : Int × Int) : List Nat := TL.numL gb.1.toNat ++ 43 :: TL.numL gb.2.toNat
def endWs (e : Int) : List Nat := 46 :: TL.numL e.toNat
def lineCw (r : Row) (e : Int) : List (List Nat) := r.map pairWs ++ [endWs e]
theorem numS_tl {i : Int} (h : 0 ≤ i) : TL.tl (numS i) = TL.numL i.toNat := by
  have := TL.tl_num i.toNat
  rw [Int.toNat_of_nonneg h] at this
  exact this
theorem pairS_tl {gb : Int × Int} (h : 0 ≤ gb.1 ∧ 0 ≤ gb.2) : TL.tl (pairS gb) = pairWs gb := by
  unfold pairS pairWs
  rw [TL.tl_append, TL.tl_append, TL.tl_append, numS_tl h.1, numS_tl h.2]
  show ([] ++ _) ++ TL.tl "+" ++ _ = _
  rw [show TL.tl ("+" : Str) = [43] by decide +kernel, List.nil_append, List.append_assoc]; rfl
theorem endS_tl {e : Int} (h : 0 ≤ e) : TL.tl (endS e) = endWs e := by
  unfold endS endWs
  rw [TL.tl_append, TL.tl_append, numS_tl h]
  show ([] ++ TL.tl ".") ++ _ = _
  rw [show TL.tl ("." : Str) = [46] by decide +kernel]; rfl
theorem lineC_tl {r : Row} {e : Int} (hr : ∀ gb ∈ r, 0 ≤ gb.1 ∧ 0 ≤ gb.2) (he : 0 ≤ e) : TL.tl (lineC r e) = TL.joinL [32] (lineCw r e) := by
  unfold lineC lineCw
  rw [TL.join_eq, TL.tl_join, List.map_append, List.map_map, show TL.tl (" " : Str) = [32] by decide +kernel]
  refine congrArg _ ?_
  congr 1
  · exact List.map_congr_left fun gb hgb => pairS_tl (hr gb hgb)
  · rw [List.map_singleton, endS_tl he]
theorem num_no {n c : Nat} (h : c ∈ TL.numL n) : 48 ≤ c ∧ c ≤ 57 := TL.numL_digits n c h
theorem pairWs_no {gb : Int × Int} {c : Nat} (h : c ∈ pairWs gb) : c ≠ 32 ∧ c ≠ 10 ∧ c < 1114112 := by
  rcases List.mem_append.mp h with q | q
  · have := num_no q; omega
  · rcases List.mem_cons.mp q with q | q
    · omega
    · have := num_no q; omega
theorem endWs_no {e : Int} {c : Nat} (h : c ∈ endWs e) : c ≠ 32 ∧ c ≠ 10 ∧ c < 1114112 := by
  rcases List.mem_cons.mp h with q | q
  · omega
  · have := num_no q; omega
theorem lineCw_no {r : Row} {e : Int} : ∀ w ∈ lineCw r e, w ≠ [] ∧ ∀ c ∈ w, c ≠ 32 ∧ c ≠ 10 ∧ c < 1114112 := fun w hw => by
  rcases List.mem_append.mp hw with q | q
  · obtain ⟨gb, _, rfl⟩ := List.mem_map.mp q
    exact ⟨fun z => absurd z (by unfold pairWs; simp), fun c hc => pairWs_no hc⟩
  · rw [List.mem_singleton.mp q]
    exact ⟨List.cons_ne_nil _ _, fun c hc => endWs_no hc⟩
theorem lineCw_ne (r : Row) (e : Int) : lineCw r e ≠ [] := by unfold lineCw; simp
theorem words_line (r : Row) (e : Int) : wordsOf (TL.joinL [32] (lineCw r e)) = lineCw r e := words_join (lineCw_ne r e) fun w hw => ⟨fun q => ((lineCw_no w hw).2 32 q).1 rfl, (lineCw_no w hw).1⟩
theorem pairW_pair {n : Nat} {gb : Int × Int} (h : 0 ≤ gb.1 ∧ gb.1 < n ∧ 0 ≤ gb.2 ∧ gb.2 < 10 ^ 40) (hn : n ≤ 100) : pairW n (pairWs gb) = some (gb.1.toNat, gb.2.toNat) := by
  unfold pairW pairWs
  rw [spl43_mid _ _ _ (TL.numL_free (by omega)), spl43_none _ _ (TL.numL_free (by omega))]
  show pairN n (numW (TL.numL gb.1.toNat)) (numW (TL.numL gb.2.toNat)) = _
  rw [numW_num (by omega), numW_num (by omega)]
  exact if_pos (by omega)
theorem stateW_line {m n : Nat} {r : Row} {e : Int} (hm : r.length = m) (hr : ∀ gb ∈ r, 0 ≤ gb.1 ∧ gb.1 < n ∧ 0 ≤ gb.2 ∧ gb.2 < 10 ^ 40) (he : 0 ≤ e ∧ e < 10 ^ 40) (hn : n ≤ 100) : stateW m n (lineCw r e) = some (r.map (fun gb => (gb.1.toNat, gb.2.toNat)), e.toNat) := by
  have h1 : lastW (lineCw r e) = endWs e := by unfold lastW lineCw; rw [List.getLastD_eq_getLast?, List.getLast?_concat]; rfl
  have h2 : (lineCw r e).dropLast = r.map pairWs := List.dropLast_concat
  have h3 : numW (endWs e).tail = some e.toNat := numW_num (by omega)
  have h4 : (r.map pairWs).all (someP n) = true := by
    rw [List.all_eq_true]
    intro w hw
    obtain ⟨gb, hgb, rfl⟩ := List.mem_map.mp hw
    unfold someP
    rw [pairW_pair (hr gb hgb) hn]; rfl
  have h5 : (lineCw r e).length = m + 1 := by unfold lineCw; rw [List.length_append, List.length_map, hm]; rfl
  unfold stateW
  rw [h1, h2, h3, if_pos ⟨h5, rfl, h4, rfl⟩]
  refine congrArg some (Prod.ext ?_ rfl)
  show (r.map pairWs).map (fun w => (pairW n w).getD (0, 0)) = _
  rw [List.map_map]
  exact List.map_congr_left fun gb hgb => by show (pairW n (pairWs gb)).getD (0, 0) = _; rw [pairW_pair (hr gb hgb) hn]; rfl
theorem okZ_all {z : Str} (hz : okZ (TL.tl z) = true) : z.length ≤ 3 ∧ 1 ≤ z.length ∧ ∀ c ∈ TL.tl z, 97 ≤ c ∧ c ≤ 122 := by
  unfold okZ at hz
  rw [Bool.and_eq_true, Bool.and_eq_true, Bool.and_eq_true, decide_eq_true_eq, decide_eq_true_eq, List.all_eq_true] at hz
  obtain ⟨⟨z1, z3⟩, hza, _⟩ := hz
  rw [TL.len_tl]
  refine ⟨z3, z1, fun c hc => ?_⟩
  have := hza c hc
  rwa [Bool.and_eq_true, decide_eq_true_eq, decide_eq_true_eq] at this
theorem headC_tl (z : Str) : TL.tl (headC z) = TL.tl "code " ++ TL.tl z := by
  unfold headC
  rw [TL.tl_append, TL.tl_append]; rfl
theorem headC_words {z : Str} (hz : okZ (TL.tl z) = true) : wordsOf (TL.tl (headC z)) = [TL.tl "code", TL.tl z] := by
  obtain ⟨z3, z1, hza⟩ := okZ_all hz
  have hz0 : TL.tl z ≠ [] := fun q => by rw [TL.len_tl, q] at z1; cases z1
  have e2 : TL.tl (headC z) = TL.joinL [32] [TL.tl "code", TL.tl z] := by
    rw [headC_tl]
    show _ = TL.tl "code" ++ ([32] ++ TL.tl z)
    rw [← List.append_assoc]
    refine congrArg (· ++ TL.tl z) ?_
    decide +kernel
  rw [e2]
  refine words_join (List.cons_ne_nil _ _) fun w hw => ?_
  rcases List.mem_cons.mp hw with e | e
  · rw [e]; decide +kernel
  · rw [List.mem_singleton.mp e]
    exact ⟨fun q => by have := hza _ q; omega, hz0⟩
theorem lines_join {ys : List Str} (hne : ys ≠ []) (h : ∀ y ∈ ys, 10 ∉ TL.tl y) : linesOf (TL.tl (Txt.join "\n" ys)) = ys.map TL.tl := by
  unfold linesOf
  rw [TL.join_eq, TL.tl_join]
  refine TL.spl_join (s := 10) (S := []) (fun q => hne (List.map_eq_nil_iff.mp q)) fun w hw => ?_
  obtain ⟨y, hy, rfl⟩ := List.mem_map.mp hw
  exact h y hy
theorem textL_join {ys : List Str} (hne : ys ≠ []) (h : ∀ y ∈ ys, 10 ∉ TL.tl y) : textL (TL.tl (Txt.join "\n" ys)) = ys.map fun y => wordsOf (TL.tl y) := by
  unfold textL
  rw [lines_join hne h, List.map_map]
  rfl
theorem readC_congr {s t : List Nat} (h : textL s = textL t) : readC s = readC t := by
  unfold readC
  rw [h]
theorem read_none : readC (TL.tl "") = .bad 1 := by
  unfold readC
  have e : textL (TL.tl "") = [[]] := by decide +kernel
  rw [e, headZ_none (by decide)]
theorem headC_no {z : Str} (hz : okZ (TL.tl z) = true) : ∀ c ∈ TL.tl (headC z), c ≠ 10 ∧ c < 1114112 := fun c hc => by
  have hs : ∀ c ∈ TL.tl "code ", c < 1114112 ∧ c ≠ 10 := by decide +kernel
  rw [headC_tl] at hc
  rcases List.mem_append.mp hc with q | q
  · exact ⟨(hs c q).2, (hs c q).1⟩
  · have := (okZ_all hz).2.2 c q; omega
theorem read_head {z : Str} (hz : okZ (TL.tl z) = true) : readC (TL.tl (headC z)) = .bad 2 := by
  have e : textL (TL.tl (headC z)) = [[TL.tl "code", TL.tl z]] := by
    have e1 : headC z = Txt.join "\n" [headC z] := TL.ext_tl (by rw [TL.join_eq, TL.tl_join]; rfl)
    rw [e1, textL_join (List.cons_ne_nil _ _) (fun y hy => by rw [List.mem_singleton.mp hy]; exact fun q => (headC_no hz 10 q).1 rfl), List.map_cons, List.map_nil, headC_words hz]
  unfold readC
  rw [e, headZ_two, if_pos ⟨rfl, hz⟩]
  rfl
theorem lineC_no {r : Row} {e : Int} (hr : ∀ gb ∈ r, 0 ≤ gb.1 ∧ 0 ≤ gb.2) (he : 0 ≤ e) : ∀ c ∈ TL.tl (lineC r e), c ≠ 10 ∧ c < 1114112 := fun c hc => by
  rw [lineC_tl hr he] at hc
  rcases mem_joinL hc with q | ⟨w, hw, q⟩
  · omega
  · exact ((lineCw_no w hw).2 c q).2
theorem linesC_no {z : Str} {rs : List Row} {es : List Int} (hz : okZ (TL.tl z) = true) (hf : Fit z.length rs es) : ∀ y ∈ linesC z rs es, ∀ c ∈ TL.tl y, c ≠ 10 ∧ c < 1114112 := fun y hy => by
  rcases List.mem_cons.mp hy with e | e
  · rw [e]; exact headC_no hz
  · obtain ⟨i, hi, rfl⟩ := List.getElem_of_mem e
    rw [List.getElem_zipWith]
    rw [List.length_zipWith] at hi
    have := hf.len
    exact lineC_no (fun gb hgb => by obtain ⟨a, b, c, d⟩ := (hf.row _ (List.getElem_mem (show i < rs.length by omega))).2 gb hgb; exact ⟨a, c⟩) (hf.ends _ (List.getElem_mem (show i < es.length by omega))).1
theorem read_str {z : Str} {rs : List Row} {es : List Int} (hz : okZ (TL.tl z) = true) (hf : Fit z.length rs es) : readC (TL.tl (strC z rs es)) = .code (TL.tl z) rs es := by
  have hlen := hf.len
  have hpos := hf.pos
  have hmost := hf.most
  have hL : textL (TL.tl (strC z rs es)) = [TL.tl "code", TL.tl z] :: List.zipWith lineCw rs es := by
    unfold strC
    rw [textL_join (show linesC z rs es ≠ [] from List.cons_ne_nil _ _) fun y hy q => (linesC_no hz hf y hy 10 q).1 rfl]
    show (headC z :: List.zipWith lineC rs es).map _ = _
    rw [List.map_cons, headC_words hz]
    refine cons_eq rfl (List.ext_getElem (by rw [List.length_map, List.length_zipWith, List.length_zipWith]) fun i h1 h2 => ?_)
    rw [List.length_zipWith] at h2
    rw [List.getElem_map, List.getElem_zipWith, List.getElem_zipWith]
    have h3 := (hf.row _ (List.getElem_mem (show i < rs.length by omega))).2
    rw [lineC_tl (fun gb hgb => by obtain ⟨a, b, c, d⟩ := h3 gb hgb; exact ⟨a, c⟩) (hf.ends _ (List.getElem_mem (show i < es.length by omega))).1, words_line]
  have hzl : (List.zipWith lineCw rs es).length = rs.length := by rw [List.length_zipWith]; omega
  have hst : ∀ (i : Nat) (hi : i < rs.length), stateW (TL.tl z).length rs.length (lineCw rs[i] (es[i]'(by omega))) = some (rs[i].map (fun gb => (gb.1.toNat, gb.2.toNat)), (es[i]'(by omega)).toNat) := fun i hi => by
    obtain ⟨h1, h2⟩ := hf.row _ (List.getElem_mem hi)
    exact stateW_line (by rw [h1, TL.len_tl]) h2 (hf.ends _ (List.getElem_mem _)) (by omega)
  unfold readC
  rw [hL, headZ_two, if_pos ⟨rfl, hz⟩]
  show (if _ then _ else _) = _
  rw [if_neg (by rw [List.length_cons, hzl]; omega), List.tail_cons, hzl]
  have hfi : ((List.zipWith lineCw rs es).findIdx? fun ws => (stateW (TL.tl z).length rs.length ws).isNone) = none := List.findIdx?_eq_none_iff.mpr fun ws hws => by
    obtain ⟨i, hi, rfl⟩ := List.getElem_of_mem hws
    rw [hzl] at hi
    rw [List.getElem_zipWith, hst i hi]; rfl
  rw [hfi]
  show COut.code _ _ _ = _
  have e1 : ((List.zipWith lineCw rs es).map (psOf (TL.tl z).length rs.length)).map rowN = rs := by
    refine List.ext_getElem (by rw [List.length_map, List.length_map, hzl]) fun i h1 h2 => ?_
    rw [List.getElem_map, List.getElem_map, List.getElem_zipWith]
    unfold psOf
    rw [hst i h2]
    show rowN (rs[i].map fun gb => (gb.1.toNat, gb.2.toNat)) = rs[i]
    unfold rowN
    rw [List.map_map]
    conv => rhs; rw [← List.map_id rs[i]]
    refine List.map_congr_left fun gb hgb => ?_
    obtain ⟨a, b, c, d⟩ := (hf.row _ (List.getElem_mem h2)).2 gb hgb
    exact Prod.ext (Int.toNat_of_nonneg a) (Int.toNat_of_nonneg c)
  have e2 : (List.zipWith lineCw rs es).map (enOf (TL.tl z).length rs.length) = es := by
    refine List.ext_getElem (by rw [List.length_map, hzl]; omega) fun i h1 h2 => ?_
    rw [List.getElem_map, List.getElem_zipWith]
    unfold enOf
    rw [hst i (by omega)]
    exact Int.toNat_of_nonneg (hf.ends _ (List.getElem_mem h2)).1
  rw [e1, e2]
end Vf
set_option Elab.async false
set_option linter.all false
set_option maxRecDepth 100000
set_option maxHeartbeats 4000000
namespace Vf
open PySem L2 PyProof.Rows
theorem numS_lenk {i : Int} {k : Nat} (hk : 0 < k) (h0 : 0 ≤ i) (h : i < ((10 ^ k : Nat) : Int)) : (numS i).length ≤ k := by
  obtain ⟨n, rfl⟩ : ∃ n : Nat, i = n := ⟨i.toNat, by omega⟩
  unfold numS
  rw [TL.len_tl, TL.tl_num]
  exact TL.numL_len hk (by omega)
/-- a code as the law draws it: the first end may be great -/
structure Drawn (m : Nat) (rs : List Row) (es : List Int) : Prop where
  len : es.length = rs.length
  pos : 0 < rs.length
  most : rs.length ≤ 8
  row : ∀ r ∈ rs, r.length = m ∧ ∀ gb ∈ r, 0 ≤ gb.1 ∧ gb.1 < (rs.length : Nat) ∧ 0 ≤ gb.2 ∧ gb.2 < 100
  ends : ∀ (i : Nat) (hi : i < es.length), 0 ≤ es[i] ∧ es[i] ≤ (10 : Int) ^ 30 ∧ (0 < i → es[i] < 100)
theorem p30 : (10 : Int) ^ 30 = ((10 ^ 30 : Nat) : Int) := by decide +kernel
theorem p40 : (10 : Int) ^ 40 = ((10 ^ 40 : Nat) : Int) := by decide +kernel
theorem Drawn.fit {m : Nat} {rs : List Row} {es : List Int} (d : Drawn m rs es) : Fit m rs es := by
  refine ⟨d.len, d.pos, Nat.le_trans d.most (by decide), fun r hr => ?_, fun e he => ?_⟩
  · obtain ⟨h1, h2⟩ := d.row r hr
    refine ⟨h1, fun gb hgb => ?_⟩
    obtain ⟨a, b, c, e⟩ := h2 gb hgb
    refine ⟨a, b, c, ?_⟩
    rw [p40]; omega
  · obtain ⟨i, hi, rfl⟩ := List.getElem_of_mem he
    obtain ⟨h0, h1, _⟩ := d.ends i hi
    rw [p30] at h1
    rw [p40]
    exact ⟨h0, by omega⟩
theorem line_len {m : Nat} {r : Row} {e : Int} {n : Nat} (hm : r.length = m) (hm3 : m ≤ 3) (hn : n ≤ 8) (h : ∀ gb ∈ r, 0 ≤ gb.1 ∧ gb.1 < (n : Nat) ∧ 0 ≤ gb.2 ∧ gb.2 < 100) : (lineC r e).length ≤ 17 + (numS e).length := by
  have h1 := StrLaws.join_length_le (" " : Str) (r.map pairS ++ [endS e])
  rw [List.map_append, List.sum_append, List.length_append, List.length_map, List.map_singleton, List.sum_singleton, List.length_singleton, show (" " : Str).length = 1 by decide +kernel] at h1
  have h2 : ((r.map pairS).map (·.length)).sum ≤ (r.map pairS).length * 4 := sum_le fun y hy => by
    obtain ⟨gb, hgb, rfl⟩ := List.mem_map.mp hy
    obtain ⟨a, b, c, d⟩ := h gb hgb
    unfold pairS
    rw [str_len, str_len, str_len, empty_len, show ("+" : Str).length = 1 by decide +kernel]
    have l1 := numS_lenk (k := 1) (by decide) a (by omega)
    have l2 := numS_lenk (k := 2) (by decide) c (by omega)
    omega
  rw [List.length_map] at h2
  have h3 : (endS e).length = 1 + (numS e).length := by
    unfold endS
    rw [str_len, str_len, empty_len, show ("." : Str).length = 1 by decide +kernel]
  have h4 : (lineC r e).length ≤ ((r.map pairS).map (·.length)).sum + (endS e).length + (r.length + 1) * 1 := by
    unfold lineC
    rw [TL.join_eq]
    exact h1
  omega
theorem headC_len {z : Str} (h : z.length ≤ 3) : (headC z).length ≤ 8 := by
  unfold headC
  rw [str_len, str_len, empty_len, show ("code " : Str).length = 5 by decide +kernel]
  omega
theorem Drawn.line {m : Nat} {rs : List Row} {es : List Int} (d : Drawn m rs es) (hm3 : m ≤ 3) (i : Nat) (hi : i < rs.length) (hie : i < es.length) : (lineC rs[i] es[i]).length ≤ 48 ∧ (0 < i → (lineC rs[i] es[i]).length ≤ 19) := by
  obtain ⟨h1, h2⟩ := d.row _ (List.getElem_mem hi)
  obtain ⟨e0, e1, e2⟩ := d.ends i hie
  have hl := line_len (e := es[i]) h1 hm3 d.most h2
  rw [p30] at e1
  have l1 := numS_lenk (k := 31) (by decide) e0 (by omega)
  refine ⟨by omega, fun h => ?_⟩
  have l2 := numS_lenk (k := 2) (by decide) e0 (by have := e2 h; omega)
  omega
theorem Drawn.lines {z : Str} {rs : List Row} {es : List Int} (d : Drawn z.length rs es) (hz : okZ (TL.tl z) = true) : ∀ y ∈ linesC z rs es, TxOk 50 y := fun y hy => by
  have hn := linesC_no hz d.fit y hy
  refine ⟨?_, fun c hc => (hn c hc).2, fun hc => (hn 10 hc).1 rfl⟩
  have z3 := (okZ_all hz).1
  rcases List.mem_cons.mp hy with e | e
  · rw [e]; have := headC_len z3; omega
  · obtain ⟨i, hi, rfl⟩ := List.getElem_of_mem e
    rw [List.getElem_zipWith]
    rw [List.length_zipWith] at hi
    have := (d.line z3 i (by omega) (by omega)).1
    omega
theorem tot_le {ys : List Str} {B : Nat} (h : ∀ y ∈ ys, y.length ≤ B) : tot ys ≤ ys.length * (B + 1) := by
  unfold tot
  have := sum_le h
  rw [Nat.mul_add]
  omega
theorem Drawn.tot {z : Str} {rs : List Row} {es : List Int} (d : Drawn z.length rs es) (hz : okZ (TL.tl z) = true) : tot (linesC z rs es) ≤ 200 := by
  have z3 := (okZ_all hz).1
  have hl := d.len
  have hp := d.pos
  have hm := d.most
  cases rs with
  | nil => cases hp
  | cons r0 rs =>
    cases es with
    | nil => cases hl
    | cons e0 es =>
      have e : linesC z (r0 :: rs) (e0 :: es) = [headC z] ++ [lineC r0 e0] ++ List.zipWith lineC rs es := rfl
      rw [e, tot_app, tot_app, tot_one, tot_one]
      have h1 := headC_len z3
      have h2 := (d.line z3 0 hp (by rw [hl]; exact hp)).1
      have h2 : (lineC r0 e0).length ≤ 48 := h2
      have h3 : Vf.tot (List.zipWith lineC rs es) ≤ (List.zipWith lineC rs es).length * (19 + 1) := tot_le fun y hy => by
        obtain ⟨i, hi, rfl⟩ := List.getElem_of_mem hy
        rw [List.getElem_zipWith]
        rw [List.length_zipWith] at hi
        exact (d.line z3 (i + 1) (by rw [List.length_cons]; omega) (by rw [List.length_cons]; omega)).2 (Nat.succ_pos _)
      rw [List.length_zipWith] at h3
      rw [List.length_cons] at hm
      have : min rs.length es.length * 20 ≤ 7 * 20 := Nat.mul_le_mul_right _ (by omega)
      omega
theorem spc_no {l : List Nat} (h : 32 ∉ l) : spc l = 0 := by
  unfold spc
  rw [List.filter_eq_nil_iff.mpr fun c hc q => h (by rw [← of_decide_eq_true q]; exact hc)]; rfl
theorem spc_join : ∀ {W : List (List Nat)}, (∀ w ∈ W, 32 ∉ w) → spc (TL.joinL [32] W) ≤ W.length
  | [], _ => Nat.le_refl _
  | [w], h => by
    show spc w ≤ 1
    rw [spc_no (h w List.mem_cons_self)]; exact Nat.zero_le _
  | w :: v :: r, h => by
    have ih := spc_join (W := v :: r) fun u hu => h u (List.mem_cons_of_mem _ hu)
    show spc (w ++ ([32] ++ TL.joinL [32] (v :: r))) ≤ _
    rw [spc_app, spc_app, spc_no (h w List.mem_cons_self), spc_one rfl]
    rw [List.length_cons]
    omega
theorem lines_spc {z : Str} {rs : List Row} {es : List Int} (d : Drawn z.length rs es) (hz : okZ (TL.tl z) = true) : ∀ y ∈ linesC z rs es, spc (TL.tl y) ≤ 4 := fun y hy => by
  obtain ⟨z3, z1, hza⟩ := okZ_all hz
  rcases List.mem_cons.mp hy with e | e
  · rw [e, headC_tl, spc_app, spc_no (l := TL.tl z) fun q => by have := hza _ q; omega, show spc (TL.tl "code ") = 1 by decide +kernel]
    decide
  · obtain ⟨i, hi, rfl⟩ := List.getElem_of_mem e
    rw [List.getElem_zipWith]
    rw [List.length_zipWith] at hi
    have hi1 : i < rs.length := by omega
    have hi2 : i < es.length := by omega
    obtain ⟨h1, h2⟩ := d.row _ (List.getElem_mem hi1)
    rw [lineC_tl (fun gb hgb => by obtain ⟨a, b, c, e⟩ := h2 gb hgb; exact ⟨a, c⟩) (d.ends i hi2).1]
    refine Nat.le_trans (spc_join fun w hw q => ((lineCw_no w hw).2 32 q).1 rfl) ?_
    unfold lineCw
    rw [List.length_append, List.length_map, h1]
    show z.length + 1 ≤ 4
    omega
theorem tot_near {c : Nat} : ∀ {ys xs : List Str}, Forall2 (fun (y x : Str) => y.length ≤ x.length + c) ys xs → tot ys ≤ tot xs + c * xs.length
  | [], [], _ => Nat.le_refl _
  | [], _ :: _, h => nomatch h.1
  | _ :: _, [], h => nomatch h.1
  | y :: ys, x :: xs, h => by
    have h0 := h.2 0 y x rfl rfl
    have ih := tot_near (ys := ys) (xs := xs) ⟨by have := h.1; simpa using this, fun i a b e1 e2 => h.2 (i + 1) a b e1 e2⟩
    have e1 : tot (y :: ys) = tot [y] + tot ys := tot_app [y] ys
    have e2 : tot (x :: xs) = tot [x] + tot xs := tot_app [x] xs
    rw [e1, e2, tot_one, tot_one, List.length_cons, Nat.mul_add]
    omega
theorem join_tot (ys : List Str) : (Txt.join "\n" ys).length ≤ tot ys := by
  have h1 := StrLaws.join_length_le ("\n" : Str) ys
  rw [show ("\n" : Str).length = 1 by decide +kernel] at h1
  rw [TL.join_eq]
  unfold tot
  omega
theorem sum_tot {ys : List Str} {B : Nat} (h : tot ys ≤ B) (hB : B ≤ 16777216) : (ys.map fun x => x.length).sum + ys.length * ("\n" : Str).length ≤ 16777216 := by
  rw [show ("\n" : Str).length = 1 by decide +kernel]
  unfold tot at h
  have h2 : (ys.map fun x => x.length).sum + ys.length ≤ B := h
  omega
theorem joined_ok {ys : List Str} {B : Nat} (h : ∀ y ∈ ys, TxOk B y) : chOk (TL.tl (Txt.join "\n" ys)) ∧ (textL (TL.tl (Txt.join "\n" ys))).length ≤ ys.length + 1 := by
  refine ⟨fun c hc => ?_, ?_⟩
  · rw [TL.join_eq, TL.tl_join] at hc
    have e : TL.tl ("\n" : Str) = [10] := by decide +kernel
    rw [e] at hc
    rcases mem_joinL hc with q | ⟨w, hw, q⟩
    · omega
    · obtain ⟨y, hy, rfl⟩ := List.mem_map.mp hw
      exact (h y hy).2.1 c q
  · cases ys with
    | nil => decide +kernel
    | cons a l =>
      rw [textL_join (List.cons_ne_nil _ _) fun y hy => (h y hy).2.2, List.length_map]
      omega
end Vf
set_option Elab.async false
set_option linter.all false
set_option maxRecDepth 100000
set_option maxHeartbeats 4000000
namespace Vf
open PySem L2 PyProof.Rows
def rOr (r1 r2 : R2) : R2 := fun x y H Q => r1 x y H Q ∨ r2 x y H Q
theorem op_or2 {X : Cx} {f : Value → Value → Sem Value} {r1 r2 : R2} (h1 : OpR X f r1) (h2 : OpR X f r2) : OpR X f (rOr r1 r2) := by
  intro pins s σ H x y v u Q I rx ry h
  rcases h with h | h
  · exact h1 pins s σ H x y v u Q I rx ry h
  · exact h2 pins s σ H x y v u Q I rx ry h
theorem gsq_lst {K : PySem.W.Frag} {H1 H : Hp} {a : Addr} {xs : List V} (h1 : H1 a = some (.lst xs)) (h : H a = some (.lst xs)) : GSq K H1 a xs H := by
  refine ⟨fun _ => SqL.of h, fun q => ?_⟩
  rcases q with (q | ⟨o, q⟩) | q
  · rw [h1] at q; cases q
  · rw [h1] at q; cases q
  · exact Or.inr q
theorem or_empty {K : PySem.W.Frag} {σ : L2.St} {H : Hp} {Q : VK} {r : Addr} {ys : List Str} {sl : Nat} (h11 : σ[sl]? = some (some (.ref r))) (hr : H r = some (.lst (ys.map V.str))) (hch : ∀ y ∈ ys, chOk (TL.tl y))
    (k : ∀ (A : Addr) (xs : List Str) (H' : Hp), Same H H' → H' A = some (.lst (xs.map V.str)) → 1 ≤ xs.length → xs.length ≤ ys.length + 1 → tot xs ≤ tot ys + 1 → (∀ x ∈ xs, x ∈ ys ∨ x = "") → Q (.ref A) H') : tIf (tTest (tOp (rNeD K) (tVar sl) (tLst tNil))) (tVar sl) (tLst (tCons (tC (V.str (Str.ofString ""))) tNil)) σ H Q := by
  have e : ys.map PyData.str = ((ys.map TL.tl).map mkS).map PyData.str := by
    rw [List.map_map, List.map_map]
    exact List.map_congr_left fun y _ => by show _ = PyData.str (mkS (TL.tl y)); rw [mkS_tl]
  refine ⟨_, h11, by show 0 ≤ sizeLine; decide, fun E1 hE1 => ⟨.list (ys.map PyData.str), .list (([] : List Str).map PyData.str), .lst (SqL.of (same_new hE1 _ _ hr)) (dpAll_strs _ _ _), .lst (xs := []) (SqL.of upd_same) .nil, by rw [e]; exact shaped_mks (fun w hw => by obtain ⟨y, hy, rfl⟩ := List.mem_map.mp hw; exact hch y hy), shaped_sgs (l := []) (fun c hc => nomatch hc), _, rfl, ?_⟩⟩
  rw [eqv_strs]
  have s1 : Same H (L2.upd H E1 (.lst [])) := same_new hE1
  generalize L2.upd H E1 (.lst []) = H1 at s1 ⊢
  cases ys with
  | nil =>
    refine ite2 (fun c => absurd c (by simp)) (fun _ => ?_)
    exact ⟨by show 1 ≤ sizeLine; decide, fun A hA => k A [""] _ (s1.trans (same_new hA)) upd_same (Nat.le_refl _) (Nat.le_refl _) (by rw [tot_one]; decide +kernel) (fun x hx => Or.inr (List.mem_singleton.mp hx))⟩
  | cons y l =>
    refine ite2 (fun _ => ?_) (fun c => absurd (by simp) c)
    exact ⟨_, h11, k r (y :: l) _ s1 (s1 _ _ hr) (Nat.succ_pos _) (Nat.le_succ _) (Nat.le_succ _) (fun x hx => Or.inl hx)⟩
def odds : List Str := ["", "code a", "code ba", "0+0 .0", "0+0 0+0 .0", "0+0 0+0 0+0 .0", ".0", "0+0", "shape a", "code abcd"]
theorem odds_ok : ∀ x ∈ odds, TxOk 20 x := by decide +kernel
theorem eq_okC {K : PySem.W.Frag} {C o o2 : Addr} {H : Hp} {z : Str} {rs : List Row} {es : List Int} {Q : VK} (a : CodeAt K C H o z rs es) (a2 : CodeAt K C H o2 z rs es) (k : ∀ H', Same H H' → Q (.bl true) H') : rOwnI C (spEqC K C) E0 (.ref o) (.ref o2) H Q := by
  obtain ⟨dx, R, E, ho, _⟩ := id a
  obtain ⟨dx2, R2, E2, ho2, _⟩ := id a2
  refine ⟨o, dx, _, o2, dx2, _, rfl, rfl, ho, ho2, o, .ref o2, z, rs, es, rfl, a, Or.inl ⟨o2, z, rs, es, rfl, a2, fun H' s => ?_⟩⟩
  rw [decide_eq_true rfl, decide_eq_true rfl, decide_eq_true rfl]
  exact k H' s
theorem str_okC {K : PySem.W.Frag} {C o : Addr} {H : Hp} {z : Str} {rs : List Row} {es : List Int} {Q : VK} (a : CodeAt K C H o z rs es) (hf : Fit z.length rs es) (hz : z.length ≤ 3) (k : ∀ H', Same H H' → Q (.str (strC z rs es)) H') : rStrI C (spStrC K C) E0 [.ref o] H Q := by
  obtain ⟨dx, R, E, ho, _⟩ := id a
  exact ⟨o, dx, _, rfl, ho, o, z, rs, es, rfl, a, hf, hz, fun H' s => ⟨_, rfl, k H' s⟩⟩
theorem pairS_law (gb : Int × Int) : numS gb.1 ++ "+" ++ numS gb.2 = pairS gb := TL.ext_tl (by unfold pairS; rw [TL.tl_append, TL.tl_append, TL.tl_append, TL.tl_append, TL.tl_append]; rfl)
theorem endS_law (e : Int) : ("." : Str) ++ numS e = endS e := TL.ext_tl (by unfold endS; rw [TL.tl_append, TL.tl_append, TL.tl_append]; rfl)
theorem headC_law (z : Str) : ("code " : Str) ++ z = headC z := TL.ext_tl (by unfold headC; rw [TL.tl_append, TL.tl_append, TL.tl_append]; rfl)
structure TxtLaw (K : PySem.W.Frag) (mg : Str → Option Value) (fD fP fPen fLe fCo fTd fRd fBe fLo C fEq fSr pR gR : Addr) (mc : Value) : Prop extends TxtP K mg fD fP where
  min : mg "min" = none
  str : mg "str" = none
  mgCode : mg "Code" = some (.ref C)
  eqs : PySem.W.findIn K (.ref C) "__eq__" = some (some (.ref fEq))
  eqf : PySem.W.isFn K (.ref fEq) = true
  srs : PySem.W.findIn K (.ref C) "__str__" = some (some (.ref fSr))
  srf : PySem.W.isFn K (.ref fSr) = true
  cr : ClX.CRead K C mc
  cm : ClX.CMet K C mc "read" pR gR
  m_law_pen : mg "_law_pen" = some (.ref fPen)
  k_law_pen : PySem.W.keepIn K (.ref fPen) = true
  m_law_letters : mg "_law_letters" = some (.ref fLe)
  k_law_letters : PySem.W.keepIn K (.ref fLe) = true
  m_law_code : mg "_law_code" = some (.ref fCo)
  k_law_code : PySem.W.keepIn K (.ref fCo) = true
  m_law_told : mg "_law_told" = some (.ref fTd)
  k_law_told : PySem.W.keepIn K (.ref fTd) = true
  m_law_read : mg "_law_read" = some (.ref fRd)
  k_law_read : PySem.W.keepIn K (.ref fRd) = true
  m_law_bent : mg "_law_bent" = some (.ref fBe)
  k_law_bent : PySem.W.keepIn K (.ref fBe) = true
  m_law_loose : mg "_law_loose" = some (.ref fLo)
  k_law_loose : PySem.W.keepIn K (.ref fLo) = true
def spLaw (K : PySem.W.Frag) : Sp := fun vs H Q _ => ∃ (a : Addr) (ns : List Int), vs = [.ref a] ∧ SqL K H a (ns.map V.int) ∧ ns.length ≤ 63 ∧ ∀ H', Q (.bl true) H'
section
variable {P : Program} {w : World} {K : PySem.W.Frag} {mg : Str → Option Value} {base : Heap}
abbrev s_law : Stmt := top 33
abbrev N_law : List Str := ["_law_script", "_law_pen_here", "_law_turn", "_law_letters_here", "_law_rows", "_law_ends", "_law_code_here", "_law_lines", "_law_state", "_law_words_here", "_law_odd", "_law_again", "_law_bent_here", "_law_change", "_law_text", "_law_goal", "_law_bits_here", "_law_line"]
abbrev P_law : List Str := ["_law_script"]
theorem sc_law : FnScope N_law P_law (defScope s_law) := ⟨rfl, rfl, rfl, by decide +kernel, rfl, by decide +kernel, by decide +kernel⟩

theorem ok_law {f fD fP fPen fLe fCo fTd fRd fBe fLo C CB CT fEq fSr pR gR fI : Addr} {mc : Value} {fd fdD fdP fdPen fdLe fdCo fdTd fdRd fdBe fdLo fdEq fdSr fdI : FuncData} (F : Fun K "law" "law" s_law f fd) (T : TxtLaw K mg fD fP fPen fLe fCo fTd fRd fBe fLo C fEq fSr pR gR mc)
    (FD : Fun K "_law_draw" "_law_draw" s__law_draw fD fdD) (b_law_draw : Binds K fdD P__law_draw [])
    (G_law_pick : FnOk P w K mg base CX0 2 fP fdP P__law_pick (spPickL K)) (b_law_pick : Binds K fdP P__law_pick [])
    (G_law_pen : FnOk P w K mg base CX0 1 fPen fdPen P__law_pen (spPen K)) (b_law_pen : Binds K fdPen P__law_pen []) (G_law_letters : FnOk P w K mg base CX0 2 fLe fdLe P__law_letters spLetters) (b_law_letters : Binds K fdLe P__law_letters [])
    (G_law_code : FnOk P w K mg base CX0 4 fCo fdCo P__law_code (spCode K)) (b_law_code : Binds K fdCo P__law_code [])
    (G_law_told : FnOk P w K mg base CX0 7 fTd fdTd P__law_told (spToldS K C)) (b_law_told : Binds K fdTd P__law_told [])
    (G_law_read : FnOk P w K mg base (L2.CX P w) 6 fRd fdRd P__law_read (spLawR K C)) (b_law_read : Binds K fdRd P__law_read [])
    (G_law_bent : FnOk P w K mg base CX0 3 fBe fdBe P__law_bent spBentL) (b_law_bent : Binds K fdBe P__law_bent [])
    (G_law_loose : FnOk P w K mg base CX0 2 fLo fdLo P__law_loose spLoose) (b_law_loose : Binds K fdLo P__law_loose [])
    (GEq : FnOk P w K mg base CX0 1 fEq fdEq P_Code___eq__ (spEqC K C)) (bEq : Binds K fdEq P_Code___eq__ [])
    (GSr : FnOk P w K mg base CX0 2 fSr fdSr P_Code___str__ (spStrC K C)) (bSr : Binds K fdSr P_Code___str__ [])
    (GRead : FnR P w K mg base (L2.CX P w) 6 gR (spRead K C CT))
    (MCode : Mk K C fI) (GCode : FnOk P w K mg base (L2.CX P w) 4 fI fdI P_Code___init__ (spInit K C CB)) (bCode : Binds K fdI P_Code___init__ []) : FnOk P w K mg base (L2.CX P w) 8 f fd P_law (spLaw K) := by
  have G_law_draw : FnOk P w K mg base CX0 1 fD fdD P__law_draw spDraw := ok_draw FD T.toTxtA
  refine F.okX sc_law (fun vs H Q E h => ?_) (fun cdv A outer s H vs Q E hr h => ?_)
  · obtain ⟨a, ns, rfl, _⟩ := h
    rfl
  · obtain ⟨a, ns, rfl, hS, hlen, k⟩ := h
    have hu := hu_of hr
    have passL : Passes (L2.CX P w) (cxOf (L2.CX P w) P w K mg base N_law "law" (defScope s_law) f cdv A outer s H E) E := passes_call (takes_of rfl rfl rfl rfl) (fun _ _ _ _ h => h)
    refine ⟨_, (pss_cons (ps_set (i := 1) sc_law.nd rfl (Or.inr rfl) (pe_call G_law_pen (hr.mono (by decide)) (by rfl) T.m_law_pen T.k_law_pen b_law_pen .nil pass0 (pa_cons (pv 0) pa_nil)))
      (pss_cons (ps_for (passes_of rfl) rfl (pi_range1 (by rfl) T.range (pa_cons (pe_op op_add pe_int (pe_callB (call_min2 rfl) (by rfl) T.min boot_min (pa_cons pe_int (pa_cons (pe_callB call_len (by rfl) T.len PySem.boot_len (pa_cons (pv 0) pa_nil)) pa_nil)))) pa_nil)) (pg_name (i := 2) sc_law.nd rfl (Or.inl rfl)) (pss_cons (ps_asg (pe_call G_law_code (hr.mono (by decide)) (by rfl) T.m_law_code T.k_law_code b_law_code .nil pass0 (pa_cons (pv 1) (pa_cons (pe_call G_law_letters (hr.mono (by decide)) (by rfl) T.m_law_letters T.k_law_letters b_law_letters .nil pass0 (pa_cons (pv 1) (pa_cons (pe_op op_add pe_int (pe_call G_law_draw (hr.mono (by decide)) (by rfl) T.m_law_draw T.k_law_draw b_law_draw .nil pass0 (pa_cons (pv 1) (pa_cons pe_int pa_nil)))) pa_nil))) (pa_cons pe_int pa_nil)))) (pg_tup (by rfl) (pgs_cons (pg_name (i := 3) sc_law.nd rfl (Or.inl rfl)) (pgs_cons (pg_name (i := 4) sc_law.nd rfl (Or.inl rfl)) (pgs_cons (pg_name (i := 5) sc_law.nd rfl (Or.inl rfl)) pgs_nil)))))
      (pss_cons (ps_asg (pe_call G_law_pick (hr.mono (by decide)) (by rfl) T.m_law_pick T.k_law_pick b_law_pick .nil pass0 (pa_cons (pv 1) (pa_cons (pe_lst (pa_cons (pe_ix ix_list (pv 5) pe_int (fun _ _ => rfl)) (pa_cons (pe_op op_sub (pe_op op_pow pe_int pe_int) pe_int) (pa_cons (pe_op op_pow pe_int pe_int) pa_nil)))) pa_nil))) (pg_sub (pv 5) pe_int set_list))
      (pss_cons (ps_par (i := 6) (j := 7) (by rfl) sc_law.nd rfl rfl (by decide) rfl rfl (pa_cons (pe_make MCode GCode (hr.mono (by decide)) (by rfl) T.mgCode bCode .nil passL (pa_cons (pv 3) (pa_cons (pv 4) (pa_cons (pv 5) pa_nil)))) (pa_cons (pe_lst (pa_cons (pe_op op_add_str pe_str (pv 3)) pa_nil)) pa_nil)) (by rfl))
      (pss_cons (ps_for (passes_of rfl) rfl (pi_range1 (by rfl) T.range (pa_cons (pe_callB call_len (by rfl) T.len PySem.boot_len (pa_cons (pv 4) pa_nil)) pa_nil)) (pg_name (i := 8) sc_law.nd rfl (Or.inl rfl)) (pss_cons (ps_setLc (i := 9) (own := [("_law_goal", 15), ("_law_bits_here", 16)]) (g := gTup K 2 (gCons (gName 15) (gCons (gName 16) gNil))) (by rfl) sc_law.nd rfl rfl (sw_true rfl rfl rfl (by decide +kernel)) (pi_seq (K := K) rfl (pe_ix ix_list (pv 4) (pv 8) (fun _ _ => rfl))) (blkOk_by (own := [("_law_goal", 15), ("_law_bits_here", 16)]) (N := N_law) (sc := defScope s_law) (by decide +kernel)) (fun _ _ _ _ _ => (pg_tup (by rfl) (pgs_cons (pg_name (i := 15) sc_law.nd rfl (Or.inl rfl)) (pgs_cons (pg_name (i := 16) sc_law.nd rfl (Or.inl rfl)) pgs_nil)))) (fun _ _ _ _ _ => pts_nil) (fun _ _ _ _ _ => (pe_op op_add_str (pe_op op_add_str (pe_callTy call_str_int (by rfl) T.str boot_str (pa_cons (pv 15) pa_nil)) pe_str) (pe_callTy call_str_int (by rfl) T.str boot_str (pa_cons (pv 16) pa_nil)))))
      (pss_one (ps_expr (pe_bm PySem.F.plainAttrs_list PySem.F.slot_list_append PySem.F.type_list_append mt_append (pv 7) (pa_cons (pe_join pe_str (pe_op op_cat (pv 9) (pe_lst (pa_cons (pe_op op_add_str pe_str (pe_callTy call_str_int (by rfl) T.str boot_str (pa_cons (pe_ix ix_list (pv 5) (pv 8) (fun _ _ => rfl)) pa_nil))) pa_nil)))) pa_nil))))))
      (pss_cons (ps_if (PW.pt (pw_or (pt_cmpR op_ne (pe_callTy (call_strI T.srs T.srf GSr (hr.mono (by decide)) bSr pass0) (by rfl) T.str boot_str (pa_cons (pv 6) pa_nil)) (pe_join pe_str (pv 7)) (nomark _)) (pw_or1 (pt_not (pt_cmpR (op_ownI (op := .Eq) (fun _ _ => rfl) T.eqs T.eqf GEq (hr.mono (by decide)) bEq pass0) (ClX.pe_cmeth (pe_glob (by rfl) T.mgCode (v := .ref C) rfl) T.cr T.cm GRead (hr.mono (by decide)) passL (pa_cons (pe_callTy (call_strI T.srs T.srf GSr (hr.mono (by decide)) bSr pass0) (by rfl) T.str boot_str (pa_cons (pv 6) pa_nil)) pa_nil)) (pv 6) (nomark _)))))) (pss_one (ps_ret pe_bl)) pss_nil)
      (pss_cons (ps_if (pt_not (pt_cmpR (op_ownI (op := .Eq) (fun _ _ => rfl) T.eqs T.eqf GEq (hr.mono (by decide)) bEq pass0) (pe_call G_law_told (hr.mono (by decide)) (by rfl) T.m_law_told T.k_law_told b_law_told .nil pass0 (pa_cons (pe_join pe_str (pe_lc (own := [("_law_line", 17)]) (g := gName 17) (by rfl) sc_law.nd (pi_seq (K := K) rfl (pv 7)) (blkOk_by (own := [("_law_line", 17)]) (N := N_law) (sc := defScope s_law) (by decide +kernel)) (fun _ _ _ _ _ => pg_name (i := 17) sc_law.nd rfl (Or.inl rfl)) (fun _ _ _ _ _ => pts_nil) (fun _ _ _ _ _ => (pe_call G_law_loose (hr.mono (by decide)) (by rfl) T.m_law_loose T.k_law_loose b_law_loose .nil pass0 (pa_cons (pv 1) (pa_cons (pv 17) pa_nil)))))) pa_nil)) (pv 6) (nomark _))) (pss_one (ps_ret pe_bl)) pss_nil)
      (pss_cons (ps_set (i := 10) sc_law.nd rfl (Or.inl rfl) (pe_lst (pa_cons pe_str (pa_cons pe_str (pa_cons pe_str (pa_cons pe_str (pa_cons pe_str (pa_cons pe_str (pa_cons pe_str (pa_cons pe_str (pa_cons pe_str (pa_cons pe_str pa_nil))))))))))))
      (pss_cons (ps_for (passes_of rfl) rfl (pi_range1 (by rfl) T.range (pa_cons pe_int pa_nil)) (pg_name (i := 11) sc_law.nd rfl (Or.inl rfl)) (pss_cons (ps_set (i := 12) sc_law.nd rfl (Or.inl rfl) (pv 7))
      (pss_cons (ps_for (passes_of rfl) rfl (pi_range1 (by rfl) T.range (pa_cons (pe_op op_add pe_int (pe_call G_law_draw (hr.mono (by decide)) (by rfl) T.m_law_draw T.k_law_draw b_law_draw .nil pass0 (pa_cons (pv 1) (pa_cons pe_int pa_nil)))) pa_nil)) (pg_name (i := 13) sc_law.nd rfl (Or.inl rfl)) (pss_one (ps_set (i := 12) sc_law.nd rfl (Or.inl rfl) (pe_call G_law_bent (hr.mono (by decide)) (by rfl) T.m_law_bent T.k_law_bent b_law_bent .nil pass0 (pa_cons (pv 1) (pa_cons (pe_ifExp (pt_cmpR (op_neD hr.units) (pv 12) (pe_lst pa_nil) (nomark _)) (pv 12) (pe_lst (pa_cons pe_str pa_nil))) (pa_cons (pv 10) pa_nil)))))))
      (pss_cons (ps_set (i := 14) sc_law.nd rfl (Or.inl rfl) (pe_join pe_str (pv 12)))
      (pss_one (ps_if (pt_not (pt_cmpR (op_or2 op_eq (op_ownI (op := .Eq) (fun _ _ => rfl) T.eqs T.eqf GEq (hr.mono (by decide)) bEq pass0)) (pe_call G_law_told (hr.mono (by decide)) (by rfl) T.m_law_told T.k_law_told b_law_told .nil pass0 (pa_cons (pv 14) pa_nil)) (pe_call G_law_read (hr.mono (by decide)) (by rfl) T.m_law_read T.k_law_read b_law_read .nil passL (pa_cons (pv 14) pa_nil)) (nomark _))) (pss_one (ps_ret pe_bl)) pss_nil))))))
      (pss_one (ps_if (PW.pt (pw_or (pt_cmpR op_ne (pe_call G_law_told (hr.mono (by decide)) (by rfl) T.m_law_told T.k_law_told b_law_told .nil pass0 (pa_cons pe_str pa_nil)) pe_int (nomark _)) (pw_or1 (pt_cmpR op_ne (pe_call G_law_told (hr.mono (by decide)) (by rfl) T.m_law_told T.k_law_told b_law_told .nil pass0 (pa_cons (pe_ix ix_list (pv 7) pe_int (fun _ _ => rfl)) pa_nil)) pe_int (nomark _))))) (pss_one (ps_ret pe_bl)) pss_nil)))))))))))
      (pss_one (ps_ret pe_bl)))), ?_⟩
    refine ⟨_, rfl, a, ns, rfl, hS, hlen, fun p c H1 hpn hcn hp1 s1 => ?_⟩
    have hmn : ∀ l : Nat, 0 ≤ 4 + (if (l : Int) < 6 then (l : Int) else 6) ∧ 4 + (if (l : Int) < 6 then (l : Int) else 6) ≤ 10 := fun l => by split <;> omega
    have hJ1 := hmn (ns.map V.int).length
    refine ⟨_, rfl, _, _, rfl, Or.inl ⟨_, (Kl.same s1).seq hS, rfl⟩, _, _, rfl, _, _, rfl, rfl, _, rfl, (by show -(2 ^ 62) ≤ 4 + (if ((ns.map V.int).length : Int) < 6 then ((ns.map V.int).length : Int) else 6); omega), (by show 4 + (if ((ns.map V.int).length : Int) < 6 then ((ns.map V.int).length : Int) else 6) < 2 ^ 62; omega),
      for_range (n := (4 + (if ((ns.map V.int).length : Int) < 6 then ((ns.map V.int).length : Int) else 6)).toNat) (fun i σ H2 => ∃ v2 v3 v4 v5 v6 v7 v8 v9 v10 v11 v12 v13 v14 v15 v16 v17 : Option V, σ = [some (.ref a), some (.ref p), v2, v3, v4, v5, v6, v7, v8, v9, v10, v11, v12, v13, v14, v15, v16, v17] ∧ Pen H2 p c (i * 10000))
      ⟨none, none, none, none, none, none, none, none, none, none, none, none, none, none, none, none, rfl, hp1⟩ ?_ ?_⟩
    · rintro i σ H2 hi ⟨v2, v3, v4, v5, v6, v7, v8, v9, v10, v11, v12, v13, v14, v15, v16, v17, rfl, hp2⟩
      have hi10 : i < 10 := by omega
      refine ⟨_, rfl, _, rfl, _, rfl, p, c, 3, _, rfl, hp2, by omega, by decide, by decide, fun d H3 d0 d1 hp3 k3 => ⟨_, _, rfl, rfl, ?_⟩⟩
      obtain ⟨m, hm⟩ : ∃ m : Nat, 1 + d = m := ⟨(1 + d).toNat, by omega⟩
      refine ⟨p, c, m, _, (by show [V.ref p, V.int (1 + d)] = [V.ref p, V.int m]; rw [hm]), hp3, by omega, by omega, fun z H4 hz hp4 k4 => ?_⟩
      obtain ⟨hzl, hzs, hzc⟩ := hz
      have hzk : okZ (TL.tl z) = true := by
        unfold okZ
        rw [Bool.and_eq_true, Bool.and_eq_true, Bool.and_eq_true, decide_eq_true_eq, decide_eq_true_eq, decide_eq_true_eq, List.all_eq_true, ← TL.len_tl]
        refine ⟨⟨by omega, by omega⟩, fun c' hc' => ?_, hzs⟩
        have := hzc c' hc'
        rw [Bool.and_eq_true, decide_eq_true_eq, decide_eq_true_eq]
        exact this
      have hz3 : z.length ≤ 3 := by omega
      have hz1 : 1 ≤ z.length := by omega
      clear hp2 hp3 k3 k4
      refine ⟨p, c, z, 8, _, rfl, hp4, by omega, by decide, by decide, by omega, fun t D R rs es H5 hDn ht hR hD hg hgl hp5 k5 => ?_⟩
      have nDc := (hp4.new hDn).2
      clear hp4 k5 hDn
      refine ⟨t, _, rfl, SqT.of ht, rfl, _, _, rfl, _, _, rfl, _, _, rfl, rfl, ?_⟩
      have hD0 : 0 < es.length := by rw [hg.len]; exact hg.pos
      obtain ⟨kv0, hk0⟩ := id hp5.dk
      have nDp : D ≠ p := ne_of hD hk0 (fun z => nomatch z)
      have hCP : CPow 10 30 := by unfold CPow; decide
      refine ⟨_, rfl, _, rfl, D, _, 0, .int es[0], rfl, rfl, SqL.of hD, at_of' (show (0 : Int) = ((0 : Nat) : Int) from rfl) (by rw [List.getElem?_map, List.getElem?_eq_getElem hD0]; rfl), _, _, rfl, rfl, hCP, _, _, rfl, rfl, _, _, rfl, rfl, hCP, by show 3 ≤ sizeLine; decide, fun q hq => ?_⟩
      have sq : ∀ o : HO, Same H5 (L2.upd H5 q o) := fun o => same_new hq
      refine ⟨p, c, q, _, _, rfl, hp5.same (sq _), by omega, SqL.of upd_same, (by show 0 < 3; decide), (by show 3 ≤ 1000; decide), fun j v H6 hv hp6 k6 => ?_⟩
      have hes0 := hg.ends _ (List.getElem_mem hD0)
      obtain ⟨e0, rfl, he0, he1⟩ : ∃ e0 : Int, v = .int e0 ∧ 0 ≤ e0 ∧ e0 ≤ (10 : Int) ^ 30 := by
        have e30 : (10 : Int) ^ (30 : Int).toNat = (10 : Int) ^ 30 := rfl
        rcases j with _ | _ | _ | j
        · refine ⟨_, (Option.some.inj hv).symm, hes0.1, ?_⟩
          rw [p30]; omega
        · refine ⟨_, (Option.some.inj hv).symm, ?_, ?_⟩
          · show (0 : Int) ≤ (10 : Int) ^ 30 - 1
            rw [p30]; decide +kernel
          · show (10 : Int) ^ 30 - 1 ≤ (10 : Int) ^ 30
            omega
        · refine ⟨_, (Option.some.inj hv).symm, ?_, Int.le_refl _⟩
          show (0 : Int) ≤ (10 : Int) ^ 30
          rw [p30]; exact Int.natCast_nonneg _
        · exact nomatch hv
      have k56 : Kp p H5 H6 := (Kp.of (sq _)).trans k6
      have hD6 := k56 _ _ hD nDp
      have hR6 : Dp K (L2.del H6 D) R (rowsD rs) := hR.mv (Kl.kp k56 hk0 |>.del D)
      refine ⟨_, rfl, D, _, 0, 0, rfl, rfl, hD6, ixN_nat (by rw [List.length_map]; exact hD0), ?_⟩
      have es2 : (es.map V.int).set 0 (V.int e0) = (es.set 0 e0).map V.int := by rw [List.map_set]
      rw [es2]
      have hdr : Drawn z.length rs (es.set 0 e0) := by
        refine ⟨by rw [List.length_set]; exact hg.len, hg.pos, by omega, fun r hr => hg.row r hr, fun i hi => ?_⟩
        rw [List.length_set] at hi
        rw [List.getElem_set]
        split
        · exact ⟨he0, he1, fun z => by omega⟩
        · have := hg.ends _ (List.getElem_mem hi)
          rw [p30]
          exact ⟨this.1, by omega, fun _ => this.2⟩
      have hD7 : (L2.upd H6 D (.lst ((es.set 0 e0).map V.int))) D = some (.lst ((es.set 0 e0).map V.int)) := upd_same
      have hR7 : Dp K (L2.upd H6 D (.lst ((es.set 0 e0).map V.int))) R (rowsD rs) := hR6.mv fun b o e _ => by
        obtain ⟨h1, h2⟩ := del_some e
        rw [upd_ne h1]; exact h2
      have hp7 : Pen (L2.upd H6 D (.lst ((es.set 0 e0).map V.int))) p c (i * 10000 + 5010) := (hp6.put nDp nDc).mono (by omega)
      dsimp only
      generalize L2.upd H6 D (.lst ((es.set 0 e0).map V.int)) = H7 at hD7 hR7 hp7 ⊢
      clear hR hD hp5 hp6 k6 k56 hD6 hR6 es2 hk0
      have hrl := hdr.most
      have hel := hdr.len
      have hgd : GoodC z.length rs (es.set 0 e0) := ⟨hdr.len, hdr.pos, fun r hr => ⟨(hdr.row r hr).1, fun gb hgb => by obtain ⟨a, b, c, d⟩ := (hdr.row r hr).2 gb hgb; exact ⟨a, b⟩⟩⟩
      generalize es.set 0 e0 = es at hD7 hdr hgd hel ⊢
      have hzs' : z.length ≤ sizeLine := Nat.le_of_lt (small1000 (by omega))
      refine ⟨_, rfl, _, rfl, _, rfl, fun o dx ho hdx ne => mk_okC ho hdx ne (Or.inl hR7) (Or.inl (.lst (SqL.of hD7) (dpAll_ints _ _ _))) hgd (by omega) (by omega) (fun H8 s8 hM => ⟨rfl, ?_⟩)⟩
      refine ⟨_, rfl, _, _, rfl, rfl, Nat.le_of_lt (small1000 (by show ("code " : Str).length + z.length ≤ 1000; rw [show ("code " : Str).length = 5 by decide +kernel]; omega)), by show 1 ≤ sizeLine; decide, fun L hL => ⟨_, _, rfl, ?_⟩⟩
      have hD8 := s8 _ _ hD7
      have hR8 := hR7.mv (Kl.same s8)
      have hp8 := hp7.same s8
      have hL9 : (L2.upd H8 L (.lst [V.str ("code " ++ z)])) L = some (.lst ((linesK z rs es 0).map V.str)) := by rw [upd_same, headC_law]; rfl
      have s89 : Same H8 (L2.upd H8 L (.lst [V.str ("code " ++ z)])) := same_new hL
      change tSeq _ _ _ _ (L2.upd H8 L (.lst [V.str ("code " ++ z)]))
      generalize L2.upd H8 L (.lst [V.str ("code " ++ z)]) = H9 at hL9 s89 ⊢
      obtain ⟨ra, xs, rfl, hra, hxs⟩ := hR8.listE
      have hxl : xs.length = rs.length := by rw [hxs.length, List.length_map]
      refine ⟨_, rfl, _, _, rfl, Or.inl ⟨_, (Kl.same s89).seq hra, rfl⟩, _, rfl, by omega, by omega, for_range (n := xs.length) (fun j σ H10 => ∃ v2 v8 v9 v15 v16 v17 : Option V, σ = [some (.ref a), some (.ref p), v2, some (.str z), some (.ref ra), some (.ref D), some (.ref o), some (.ref L), v8, v9, v10, v11, v12, v13, v14, v15, v16, v17] ∧
        H10 L = some (.lst ((linesK z rs es j).map V.str)) ∧ Same H8 H10) ⟨_, v8, v9, v15, v16, v17, rfl, hL9, s89⟩ ?_ ?_⟩
      · rintro j σ H10 hj ⟨v2, v8, v9, v15, v16, v17, rfl, hL10, s10⟩
        rw [hxl] at hj
        have hje : j < es.length := by omega
        obtain ⟨v, hv1, hv2⟩ := hxs.get (i := j) (d := rowD rs[j]) (by rw [List.getElem?_map, List.getElem?_eq_getElem hj]; rfl)
        obtain ⟨q, ts, rfl, hq, hts⟩ := hv2.listE
        obtain ⟨hrl', hrb⟩ := hdr.row _ (List.getElem_mem hj)
        obtain ⟨en0, en1, _⟩ := hdr.ends j hje
        have htl : ts.length = rs[j].length := by rw [hts.length, List.length_map]
        refine ⟨_, rfl, _, rfl, ra, xs, _, .ref q, rfl, rfl, (Kl.same s10).seq hra, at_of' (show ((0 : Int) + (j : Nat)) = ((j : Nat) : Int) by omega) hv1, q, ts, rfl, Or.inl ((Kl.same s10).seq hq), fun J hJ W hW => lc_it hJ (fun k H11 => H11 W = some (.lst (((rs[j].take k).map pairS).map V.str)) ∧ Same H10 H11) ⟨upd_same, same_new hW⟩ (fun k H11 _ ⟨_, s11⟩ => GSq.same s11) ?_ ?_⟩
        · rintro k x H12 H11 hk ⟨hW11, s11⟩ ⟨rfl, hx⟩
          have hk' : k < rs[j].length := by omega
          obtain ⟨v, h1, h2⟩ := hts.get (i := k) (d := tupD rs[j][k]) (by rw [List.getElem?_map, List.getElem?_eq_getElem hk']; rfl)
          rw [h1] at hx
          cases hx
          obtain ⟨t, us, rfl, ht, hus⟩ := h2.tupE
          obtain ⟨b0, b1, b2, b3⟩ := hrb _ (List.getElem_mem hk')
          obtain rfl : us = [.int rs[j][k].1, .int rs[j][k].2] := dpAll_intsE (cs := [rs[j][k].1, rs[j][k].2]) hus
          have l1 := numS_lenk (k := 1) (by decide) b0 (by omega)
          have l2 := numS_lenk (k := 2) (by decide) b2 (by omega)
          have e1 : (numS rs[j][k].1 ++ "+").length ≤ 100 := by rw [str_len, show ("+" : Str).length = 1 by decide +kernel]; omega
          refine ⟨t, _, rfl, (Kl.same (s10.trans s11)).seqT ht, rfl, _, _, rfl, _, _, rfl, rfl, rfl, ?_⟩
          refine lcYes ?_
          refine ⟨_, rfl, _, rfl, numS_log b0 (by rw [p40]; omega), _, _, rfl, rfl, Nat.le_of_lt (small1000 (by show (numS _).length + ("+" : Str).length ≤ 1000; rw [← str_len]; omega)), _, rfl, _, rfl, numS_log b2 (by rw [p40]; omega), _, _, rfl, rfl, Nat.le_of_lt (small1000 (by show (numS rs[j][k].1 ++ "+").length + (numS rs[j][k].2).length ≤ 1000; omega)), _, hW11, by rw [List.length_map, List.length_map, List.length_take]; exact small1000 (by omega), ?_, s11.put hW⟩
          rw [upd_same, take_more hk', List.map_append, List.map_append]
          exact congrArg (fun z => some (HO.lst (((rs[j].take k).map pairS).map V.str ++ [V.str z]))) (pairS_law rs[j][k])
        · rintro H11 ⟨hW11, s11⟩
          rw [htl, List.take_length] at hW11
          have s811 := s10.trans s11
          have hD11 := s811 _ _ hD8
          have hL11 := s11 _ _ hL10
          have en40 : es[j] < 10 ^ 40 := by rw [p30] at en1; rw [p40]; omega
          have l3 := numS_len en0 en40
          have hlkl : (linesK z rs es j).length = j + 1 := by unfold linesK; rw [List.length_cons, List.length_map, List.length_range]
          have hpl : ∀ gb ∈ rs[j], (pairS gb).length ≤ 81 := fun gb hgb => by
            obtain ⟨b0, b1, b2, b3⟩ := hrb gb hgb
            exact pairS_len ⟨b0, by rw [p40]; omega, b2, by rw [p40]; omega⟩
          refine ⟨_, rfl, Or.inl ⟨rfl, _, SqL.of hL11⟩, ⟨_, rfl⟩, _, rfl, _, rfl, _, rfl, D, _, _, .int es[j], rfl, rfl, SqL.of hD11, at_of' (show ((0 : Int) + (j : Nat)) = ((j : Nat) : Int) by omega) (by rw [List.getElem?_map, List.getElem?_eq_getElem hje]; rfl), _, rfl, numS_log en0 en40, _, _, rfl, rfl, Nat.le_of_lt (small1000 (by show ("." : Str).length + (numS es[j]).length ≤ 1000; rw [show ("." : Str).length = 1 by decide +kernel]; omega)), by show 1 ≤ sizeLine; decide, fun B hB => ?_⟩
          have s12 := same_new (o := .lst [V.str (("." : Str) ++ Str.ofString (toString es[j]))]) hB
          refine ⟨W, B, _, _, rfl, rfl, s12 _ _ hW11, upd_same, Nat.le_of_lt (small1000 (by rw [List.length_map, List.length_map]; show rs[j].length + 1 ≤ 1000; omega)), fun A hA => ?_⟩
          have s13 := s12.trans (same_new (o := .lst ((rs[j].map pairS).map V.str ++ [V.str (("." : Str) ++ Str.ofString (toString es[j]))])) hA)
          refine ⟨" ", A, rs[j].map pairS ++ [endS es[j]], rfl, rfl, Or.inl (SqL.of ?_), ?_, L, _, _, rfl, rfl, s13 _ _ hL11, small1000 (by rw [List.length_map, hlkl]; omega), _, _, _, _, _, _, rfl, ?_, (s811.trans s13).put hL⟩
          · rw [upd_same, List.map_append]
            exact congrArg (fun z => some (HO.lst ((rs[j].map pairS).map V.str ++ [V.str z]))) (endS_law es[j])
          · refine Nat.le_trans (Nat.add_le_add_right (sum_le (B := 81) fun y hy => ?_) _) ?_
            · rcases List.mem_append.mp hy with u | u
              · obtain ⟨gb, hgb, rfl⟩ := List.mem_map.mp u
                exact hpl gb hgb
              · rw [List.mem_singleton.mp u]; have := endS_len en0 en40; omega
            · rw [show (" " : Str).length = 1 by decide +kernel, List.length_append, List.length_map]
              show (rs[j].length + 1) * 81 + (rs[j].length + 1) * 1 ≤ _
              omega
          · rw [upd_same, linesK_succ, List.map_append]
            rw [List.getD_eq_getElem?_getD, List.getElem?_eq_getElem hj, Option.getD_some, List.getD_eq_getElem?_getD, List.getElem?_eq_getElem hje, Option.getD_some]
            rfl
      · rintro σ H10 ⟨v2, v8, v9, v15, v16, v17, rfl, hL10, s10⟩
        rw [hxl, linesK_all hel] at hL10
        have hM10 := hM.same s10
        have hp10 := hp8.same s10
        have hfit := hdr.fit
        have hlok := hdr.lines hzk
        have hlsp := lines_spc hdr hzk
        have hll : (linesC z rs es).length = rs.length + 1 := by unfold linesC; rw [List.length_cons, List.length_zipWith]; omega
        have hjok := joined_ok hlok
        rw [hll] at hjok
        have hrd := read_str hzk hfit
        have htot := hdr.tot hzk
        have hsum := sum_tot htot (by decide)
        have hjl : (strC z rs es).length ≤ 600 := Nat.le_trans (join_tot _) (by omega)
        refine ⟨_, rfl, ?_⟩
        dsimp only [tNil]
        refine str_okC hM10 hfit hz3 fun H11 s11 => ?_
        refine ⟨⟨_, rfl⟩, _, rfl, "\n", L, linesC z rs es, rfl, rfl, Or.inl (SqL.of (s11 _ _ hL10)), hsum, rfl, _, rfl, ite2 (fun c => absurd c (by simp [strC])) (fun _ => ?_)⟩
        have hM11 := hM10.same s11
        refine ⟨rfl, _, rfl, ?_⟩
        dsimp only [tNil]
        refine str_okC hM11 hfit hz3 fun H12 s12 => ?_
        refine ⟨_, rfl, hjl, Nat.le_trans hjok.2 (by omega), fun i hi => (nomatch (hi.symm.trans hrd)), fun z' rs' es2 hz' o2 H13 s13 hM13 => ?_⟩
        have ez := hrd.symm.trans hz'
        injection ez with ez1 ez2 ez3
        subst ez1 ez2 ez3
        rw [mkS_tl] at hM13
        refine ⟨_, rfl, eq_okC hM13 (hM11.same (s12.trans s13)) fun H14 s14 => ⟨_, rfl, ite2 (fun c => absurd c (by decide)) (fun _ => ?_)⟩⟩
        have s1014 : Same H10 H14 := ((s11.trans s12).trans s13).trans s14
        have hM14 := hM10.same s1014
        have hL14 := s1014 _ _ hL10
        have hp14 : Pen H14 p c (i * 10000 + 5010) := hp10.same s1014
        clear hM13 hM11 s11 s12 s13 s14 s1014 hM10 hL10 hp10 s10 hp7 hp8 hL9 s89 hra hxs hR8 hR7 hD8 hD7
        obtain ⟨kv0, hk0⟩ := id hp14.dk
        have nLp : L ≠ p := ne_of hL14 hk0 (fun z => nomatch z)
        refine ⟨⟨_, rfl⟩, _, rfl, L, _, rfl, Or.inl (SqL.of hL14), fun J hJ A1 hA1 => lc_it hJ (fun k H15 => ∃ ys : List Str, H15 A1 = some (.lst (ys.map V.str)) ∧ Forall2 (fun (y x : Str) => wordsOf (TL.tl y) = wordsOf (TL.tl x) ∧ y.length ≤ x.length + 10 ∧ TxOk 62 y) ys ((linesC z rs es).take k) ∧ Pen H15 p c (i * 10000 + 5010 + k * 202) ∧ Kp p H14 H15) ⟨[], upd_same, ⟨rfl, fun i x y e1 e2 => nomatch e1⟩, hp14.same (same_new hA1), Kp.of (same_new hA1)⟩ (fun k H15 _ ⟨_, _, _, _, k15⟩ => gsq_lst hL14 (k15 _ _ hL14 nLp)) ?_ ?_⟩
        · rintro k x H16 H15 hk ⟨ys, hA15, hf, hp15, k15⟩ ⟨rfl, hx⟩
          rw [List.length_map] at hk
          obtain rfl : V.str ((linesC z rs es)[k]) = x := by
            rw [List.getElem?_map, List.getElem?_eq_getElem hk] at hx
            exact Option.some.inj hx
          have hok := hlok _ (List.getElem_mem hk)
          have hsp := hlsp _ (List.getElem_mem hk)
          obtain ⟨nA1p, nA1c⟩ := hp14.new hA1
          refine ⟨rfl, ?_⟩
          refine lcYes ?_
          refine ⟨_, rfl, _, rfl, p, c, _, _, rfl, hp15, by omega, by have := hok.1; omega, fun y H17 hy1 hy2 hy3 hp17 k17 => ?_⟩
          have hyl : ys.length = k := by rw [hf.1, List.length_take]; omega
          have hyok : TxOk 62 y := ⟨by have := hok.1; omega, fun d hd => by
            rcases hy3 d hd with q | q
            · exact hok.2.1 d q
            · omega, fun hd => by
            rcases hy3 10 hd with q | q
            · exact hok.2.2 q
            · cases q⟩
          refine ⟨_, k17 _ _ hA15 nA1p, by rw [List.length_map]; exact small1000 (by omega), ys ++ [y], by rw [upd_same, List.map_append]; rfl, ?_, (hp17.put nA1p nA1c).mono (by omega), (k15.trans k17).put hA1⟩
          rw [take_more hk]
          exact hf.snoc ⟨hy1, by omega, hyok⟩
        · rintro H15 ⟨ys, hA15, hf, hp15, k15⟩
          rw [List.length_map, List.take_length] at hf
          rw [List.length_map, hll] at hp15
          have hyl : ys.length = rs.length + 1 := by rw [hf.1, hll]
          have hyok : ∀ y ∈ ys, TxOk 62 y := fun y hy => by
            obtain ⟨k', hk', rfl⟩ := List.getElem_of_mem hy
            exact (hf.2 k' _ _ (List.getElem?_eq_getElem hk') (List.getElem?_eq_getElem (by rw [← hf.1]; exact hk'))).2.2
          have hyj := joined_ok hyok
          rw [hyl] at hyj
          have hyne : ys ≠ [] := fun q => by rw [q] at hyl; cases hyl
          have hyt : tot ys ≤ 290 := by
            have := tot_near (hf.imp fun _ _ _ h => h.2.1)
            rw [hll] at this
            omega
          have htx : textL (TL.tl (Txt.join "\n" ys)) = textL (TL.tl (strC z rs es)) := by
            unfold strC
            rw [textL_join hyne fun y hy => (hyok y hy).2.2, textL_join (show linesC z rs es ≠ [] from List.cons_ne_nil _ _) fun y hy => (hlok y hy).2.2]
            refine List.ext_getElem (by rw [List.length_map, List.length_map, hf.1]) fun k' h1 h2 => ?_
            rw [List.getElem_map, List.getElem_map]
            rw [List.length_map] at h1 h2
            exact (hf.2 k' _ _ (List.getElem?_eq_getElem h1) (List.getElem?_eq_getElem h2)).1
          have hrd2 := (readC_congr htx).trans hrd
          have hM15 := hM14.kp k15 hk0
          have hL15 := k15 _ _ hL14 nLp
          refine ⟨"\n", A1, ys, rfl, rfl, Or.inl (SqL.of hA15), sum_tot hyt (by decide), ?_⟩
          refine ⟨_, rfl, Nat.le_trans (join_tot _) (by omega), Nat.le_trans hyj.2 (by omega), fun i hi => (nomatch (hi.symm.trans hrd2)), fun z' rs' es3 hz' o2 H16 s16 hM16 => ?_⟩
          have ez := hrd2.symm.trans hz'
          injection ez with ez1 ez2 ez3
          subst ez1 ez2 ez3
          rw [mkS_tl] at hM16
          refine ⟨_, rfl, eq_okC hM16 (hM15.same s16) fun H17 s17 => ⟨_, rfl, ite2 (fun c => absurd c (by decide)) (fun _ => ?_)⟩⟩
          have s1517 := s16.trans s17
          have hL17 := s1517 _ _ hL15
          have hp17 := hp15.same s1517
          clear hM16 hM15 s16 s17 s1517 hL15 hp15 hf hA15 k15 hM14 hL14 hp14 hk0
          refine ⟨by show 10 ≤ sizeLine; decide, fun O hO => ?_⟩
          have hO18 : (L2.upd H17 O (.lst (odds.map V.str))) O = some (.lst (odds.map V.str)) := upd_same
          have s18 : Same H17 (L2.upd H17 O (.lst (odds.map V.str))) := same_new hO
          change gName 10 (V.ref O) _ (L2.upd H17 O (.lst (odds.map V.str))) _
          have hp18 : Pen (L2.upd H17 O (.lst (odds.map V.str))) p c (i * 10000 + 7000) := (hp17.same s18).mono (by omega)
          have hL18 := s18 _ _ hL17
          generalize L2.upd H17 O (.lst (odds.map V.str)) = H18 at hO18 hp18 hL18 ⊢
          refine ⟨8, rfl, by decide, by decide, for_range (n := 8) (fun q σ H17 => ∃ v2 v8 v9 v11 v12 v13 v14 v15 v16 v17 : Option V, σ = [some (.ref a), some (.ref p), v2, some (.str z), some (.ref ra), some (.ref D), some (.ref o), some (.ref L), v8, v9, some (.ref O), v11, v12, v13, v14, v15, v16, v17] ∧
            H17 L = some (.lst ((linesC z rs es).map V.str)) ∧ H17 O = some (.lst (odds.map V.str)) ∧ Pen H17 p c (i * 10000 + 7000 + q * 10)) ⟨_, _, _, _, _, _, _, _, _, _, rfl, hL18, hO18, hp18⟩ ?_ ?_⟩
          · rintro q σ H17 hq ⟨v2, v8, v9, v11, v12, v13, v14, v15, v16, v17, rfl, hL17, hO17, hp17⟩
            obtain ⟨kv1, hk1⟩ := id hp17.dk
            have nLp : L ≠ p := ne_of hL17 hk1 (fun z => nomatch z)
            have nOp : O ≠ p := ne_of hO17 hk1 (fun z => nomatch z)
            refine ⟨_, rfl, ?_⟩
            refine g_name ?_
            dsimp only
            refine ⟨_, rfl, p, c, 2, _, rfl, hp17, by omega, by decide, by decide, fun d H18 d0 d1 hp18 k18 => ⟨_, _, rfl, rfl, _, rfl, by omega, by omega, ?_⟩⟩
            obtain ⟨dn, rfl⟩ : ∃ dn : Nat, d = dn := ⟨d.toNat, by omega⟩
            refine for_range (n := ((1 : Int) + (dn : Nat)).toNat) (fun u σ H19 => ∃ (v2 v8 v9 v11 v13 v14 v15 v16 v17 : Option V) (r : Addr) (ys : List Str), σ = [some (.ref a), some (.ref p), v2, some (.str z), some (.ref ra), some (.ref D), some (.ref o), some (.ref L), v8, v9, some (.ref O), v11, some (.ref r), v13, v14, v15, v16, v17] ∧
              H19 r = some (.lst (ys.map V.str)) ∧ ys.length ≤ 9 + 2 * u ∧ tot ys ≤ 200 + u * 115 ∧ (∀ y ∈ ys, TxOk (50 + 31 * u) y) ∧ H19 L = some (.lst ((linesC z rs es).map V.str)) ∧ H19 O = some (.lst (odds.map V.str)) ∧ Pen H19 p c (i * 10000 + 7000 + q * 10 + 1 + u * 4)) ⟨_, _, _, _, _, _, _, _, _, L, linesC z rs es, rfl, k18 _ _ hL17 nLp, by omega, htot, hlok, k18 _ _ hL17 nLp, k18 _ _ hO17 nOp, hp18⟩ ?_ ?_
            · rintro u σ H19 hu' ⟨v2, v8, v9, v11, v13, v14, v15, v16, v17, r, ys, rfl, hr19, hyl, hyt, hyo, hL19, hO19, hp19⟩
              have hu2 : u < 2 := by omega
              refine ⟨_, rfl, or_empty rfl hr19 (fun y hy => (hyo y hy).2.1) fun A xs H20 s20 hA hx1 hx2 hxt hx3 => ?_⟩
              have hxo : ∀ x ∈ xs, TxOk (50 + 31 * u) x := fun x hx => by
                rcases hx3 x hx with e | e
                · exact hyo x e
                · rw [e]; exact (odds_ok "" List.mem_cons_self).mono (by omega)
              refine ⟨_, rfl, p, c, A, O, xs, odds, _, 50 + 31 * u, rfl, hp19.same s20, by omega, hA, s20 _ _ hO19, hx1, by omega, hxo, by decide, by decide, odds_ok, by omega, by omega, fun r' ys' H21 hr21 hyl' hyo' hyt' hp21 k21 => ?_⟩
              exact ⟨_, _, _, _, _, _, _, _, _, r', ys', rfl, hr21, by omega, by omega, fun y hy => (hyo' y hy).mono (by omega), k21 _ _ (s20 _ _ hL19) nLp, k21 _ _ (s20 _ _ hO19) nOp, hp21.mono (by omega)⟩
            · rintro σ H19 ⟨v2, v8, v9, v11, v13, v14, v15, v16, v17, r, ys, rfl, hr19, hyl, hyt, hyo, hL19, hO19, hp19⟩
              have hu2 : ((1 : Int) + (dn : Nat)).toNat ≤ 2 := by omega
              have hyt : tot ys ≤ 430 := by
                have : ((1 : Int) + (dn : Nat)).toNat * 115 ≤ 2 * 115 := Nat.mul_le_mul_right _ hu2
                omega
              have hjo := joined_ok hyo
              have htl : (Txt.join "\n" ys).length ≤ 600 := Nat.le_trans (join_tot _) (by omega)
              have hso := sum_tot hyt (by decide)
              refine ⟨⟨_, rfl⟩, _, rfl, "\n", r, ys, rfl, rfl, Or.inl (SqL.of hr19), hso, ?_⟩
              generalize Txt.join "\n" ys = tx at hjo htl ⊢
              have fin : ∀ H20, Same H19 H20 → ∀ σ : L2.St, (∃ v2 v8 v9 v11 v12 v13 v14 v15 v16 v17 : Option V, σ = [some (.ref a), some (.ref p), v2, some (.str z), some (.ref ra), some (.ref D), some (.ref o), some (.ref L), v8, v9, some (.ref O), v11, v12, v13, v14, v15, v16, v17]) → ∃ v2 v8 v9 v11 v12 v13 v14 v15 v16 v17 : Option V, σ = [some (.ref a), some (.ref p), v2, some (.str z), some (.ref ra), some (.ref D), some (.ref o), some (.ref L), v8, v9, some (.ref O), v11, v12, v13, v14, v15, v16, v17] ∧
                  H20 L = some (.lst ((linesC z rs es).map V.str)) ∧ H20 O = some (.lst (odds.map V.str)) ∧ Pen H20 p c (i * 10000 + 7000 + (q + 1) * 10) := fun H20 s20 σ hσ => by
                obtain ⟨v2, v8, v9, v11, v12, v13, v14, v15, v16, v17, rfl⟩ := hσ
                exact ⟨_, _, _, _, _, _, _, _, _, _, rfl, s20 _ _ hL19, s20 _ _ hO19, (hp19.same s20).mono (by omega)⟩
              refine ⟨_, rfl, tx, rfl, htl, by omega, fun i' hi' H20 s20 => ?_, fun z' rs' es3 hz' o2 H20 s20 hM20 => ?_⟩
              · refine ⟨_, rfl, tx, rfl, htl, by omega, hjo.1, fun i2 hi2 H21 s21 => Or.inl ⟨rfl, _, rfl, ?_⟩, fun z' rs' es3 hz' => (nomatch (hz'.symm.trans hi'))⟩
                have ez := hi'.symm.trans hi2
                injection ez with ez
                subst ez
                exact ite2 (fun c => absurd c (by simp)) (fun _ => fin _ (s20.trans s21) _ ⟨_, _, _, _, _, _, _, _, _, _, rfl⟩)
              · refine ⟨_, rfl, tx, rfl, htl, by omega, hjo.1, fun i2 hi2 => (nomatch (hz'.symm.trans hi2)), fun z2 rs2 es2 hz2 o3 H21 s21 hM21 => Or.inr ?_⟩
                have ez := hz'.symm.trans hz2
                injection ez with ez1 ez2 ez3
                subst ez1 ez2 ez3
                exact eq_okC (hM20.same s21) hM21 fun H22 s22 => ⟨_, rfl, ite2 (fun c => absurd c (by decide)) (fun _ => fin _ ((s20.trans s21).trans s22) _ ⟨_, _, _, _, _, _, _, _, _, _, rfl⟩)⟩
          · rintro σ H17 ⟨v2, v8, v9, v11, v12, v13, v14, v15, v16, v17, rfl, hL17, hO17, hp17⟩
            have hhl := headC_len hz3
            refine ⟨"", rfl, by decide +kernel, by decide +kernel, fun i1 hi1 H18 s18 => ?_, fun z' rs' es3 hz' => (nomatch (read_none.symm.trans hz'))⟩
            have ez := read_none.symm.trans hi1
            injection ez with ez
            subst ez
            refine ⟨rfl, _, rfl, ite2 (fun c => absurd c (by simp)) (fun _ => ?_)⟩
            refine ⟨_, rfl, L, _, 0, .str (headC z), rfl, rfl, SqL.of (s18 _ _ hL17), at_of' (show (0 : Int) = ((0 : Nat) : Int) from rfl) rfl, headC z, rfl, by omega, ?_, fun i2 hi2 H19 s19 => ?_, fun z' rs' es3 hz' => (nomatch ((read_head hzk).symm.trans hz'))⟩
            · have e1 : Txt.join "\n" [headC z] = headC z := TL.ext_tl (by rw [TL.join_eq, TL.tl_join]; rfl)
              have := (joined_ok (ys := [headC z]) (B := 50) fun y hy => by rw [List.mem_singleton.mp hy]; exact hlok _ List.mem_cons_self).2
              rw [e1] at this
              exact Nat.le_trans this (by rw [List.length_singleton]; decide)
            · have ez := (read_head hzk).symm.trans hi2
              injection ez with ez
              subst ez
              refine ⟨rfl, _, rfl, ite2 (fun c => absurd c (by simp)) (fun _ => ?_)⟩
              exact ⟨_, _, _, _, _, _, _, _, _, _, _, _, _, _, _, _, rfl, (hp17.same (s18.trans s19)).mono (by omega)⟩
    · rintro σ H2 ⟨v2, v3, v4, v5, v6, v7, v8, v9, v10, v11, v12, v13, v14, v15, v16, v17, rfl, hp2⟩
      exact k H2
end
end Vf
set_option Elab.async false
set_option linter.all false
set_option maxRecDepth 100000
set_option maxHeartbeats 4000000
/-! raise C(): an own class over an own class over ValueError, without __init__, without arguments -/
namespace Vf
open PySem L2 PyProof.Rows
theorem pmk_own0 {X : Cx} {C : Addr} {bmB : List Value} {B newId initId : String} {x : Str} {p pos : Pos} (F : ExcBaseFacts B newId initId bmB) (q : PySem.W.excIn X.K C bmB newId = true) (gC : X.mg x = some (.ref C)) (kC : PySem.W.keepIn X.K (.ref C) = true) (r : Raises X (.ref C)) (hg : Gl X x)
    (hdb : (x == ("__debug__" : Str)) = false := by decide) : PMk X (.Call (.Name x p) [] [] pos) (fun _ H Q => Q (.ref C) none H) := by
  intro pins s σ H Q I h
  refine wpAny_Call_Name_kw (ld_glob I hg gC ?_ hdb)
  obtain ⟨hp1, g1, d1, tk1, os1⟩ := s
  refine PySem.W.callWith_K0 (first := []) I.kIn kC ?_
  obtain ⟨bm, N, nm, qn, bs, hdct, sn, sub, ab, col, dd, k0, k1, k2, k3, k5, mN, hC, hN, hni, T⟩ := exc_obj I.kIn q
  refine wpAny_call_exc_subT F T hC hN hni (fun h' e hm => ?_) (Nat.zero_le _)
  exact mk_of I hm r h (I.hok.gone hm.new)
/-- what is asked of such a class -/
structure PlainE (K : PySem.W.Frag) (mg : Str → Option Value) (x : Str) (C : Addr) (bmB : List Value) (newId : String) : Prop where
  q : PySem.W.excIn K C bmB newId = true
  g : mg x = some (.ref C)
  k : PySem.W.keepIn K (.ref C) = true
  s : PySem.W.subIn K (.ref C) (.type "BaseException") = some true
  t : PySem.W.typeIn K (.ref C) = some (.type "type")
theorem pmk_plain {X : Cx} {C : Addr} {bmB : List Value} {B newId initId : String} {x : Str} {p pos : Pos} (F : ExcBaseFacts B newId initId bmB) (T : PlainE X.K X.mg x C bmB newId) (hg : Gl X x) (hdb : (x == ("__debug__" : Str)) = false := by decide) : PMk X (.Call (.Name x p) [] [] pos) (fun _ H Q => Q (.ref C) none H) :=
  pmk_own0 F T.q T.g T.k (raises_own T.s T.t) hg hdb
end Vf
namespace Vf
open PySem L2 PyProof.Rows
/-- a call without arguments of a function that a name holds, in a try: the promise depends on the slots -/
def tCallV0V (i : Nat) (f : Addr) (S : Hp → Prop) (sp : Sp) (E : L2.St → XK) : TE := fun σ H Q => σ[i]? = some (some (.ref f)) ∧ S H ∧ sp [] H Q (E σ)
theorem pe_callV0V {X : Cx} {CX : CXT} {i k : Nat} {f : Addr} {S : Hp → Prop} {sp : Sp} {E : L2.St → XK} {x : Str} {p pos : Pos} (F : FV X.prog X.w X.K X.mg X.base CX k f S sp) (hr : Room k X.A) (hx : ∀ σ, PassesAt CX X σ (E σ)) (hN : X.N[i]? = some x) (hv : Vis X.env.scope x)
    (hd : (x == ("__debug__" : Str)) = false := by decide) (hcd : (x == ("__classdict__" : Str)) = false := by decide) : PE X (.Call (.Name x p) [] [] pos) (tCallV0V i f S sp E) := by
  refine ⟨fun pins s σ H Q I h => ?_⟩
  obtain ⟨hs, hS, q⟩ := h
  refine wpAny_Call_Name_kw (thn ((pe_var (pos := p) hN hv hd hcd).run pins s σ H (fun v H1 => v = .ref f ∧ H1 = H) I ⟨.ref f, hs, rfl, rfl⟩) fun u s1 ⟨v, H1, I1, r1, q1⟩ => ?_)
  obtain ⟨ev, eH⟩ := q1
  subst ev
  rw [eH] at I1
  have r1' : u = Value.ref f := r1
  subst r1'
  refine PySem.W.callWith_F0 (first := []) (F.fn H s1.heap I1.kIn I1.hok hS) ?_
  refine wpAny_call (codeAny_mono (F.run X.A X.stack s1 H [] [] Q (E σ) hr I1.env0 hS .nil q) fun rr s' hq => ?_)
  rcases rr with er | fl
  · exact hx σ pins H s1 er s' I1 hq
  · cases fl with
    | ret u => exact I1.after hq
    | next => exact hq.elim
    | brk => exact hq.elim
    | cont => exact hq.elim
end Vf
set_option Elab.async false
set_option linter.all false
set_option maxRecDepth 100000
set_option maxHeartbeats 4000000
namespace Vf
open PySem L2 PyProof.Rows
theorem kit_self {K : PySem.W.Frag} (C : Addr) : PySem.W.kitOne K (.ref C) (.ref C) = some true := by
  unfold PySem.W.kitOne
  rw [if_pos (by simp)]
theorem kit_tupC {K : PySem.W.Frag} {C : Addr} (h : PySem.W.hasDictIn K C = true) (ht : PySem.W.typeIn K (.ref C) = some (.type "type")) (hs : PySem.W.subIn K (.type "tuple") (.ref C) = some false) : PySem.W.kitOne K (.type "tuple") (.ref C) = some false := by
  have hc : (PySem.W.clsIn K C).isSome = true := by
    unfold PySem.W.hasDictIn at h
    cases e : PySem.W.clsIn K C with
    | none => rw [e] at h; cases h
    | some c => rfl
  unfold PySem.W.kitOne
  rw [if_neg (by intro q; have := beq_iff_eq.mp q; cases this)]
  have e2 : ((PySem.W.clsIn K C).isSome && PySem.W.typeIn K (.ref C) == some (.type "type")) = true := by rw [hc, ht] <;> rfl
  show (if ((PySem.W.clsIn K C).isSome && PySem.W.typeIn K (.ref C) == some (.type "type")) = true then PySem.W.subIn K (.type "tuple") (.ref C) else none) = some false
  rw [if_pos e2]
  exact hs
theorem kit_sub {K : PySem.W.Frag} {D C : Addr} (h : PySem.W.hasDictIn K C = true) (ht : PySem.W.typeIn K (.ref C) = some (.type "type")) (ne : D ≠ C) {b : Bool} (hs : PySem.W.subIn K (.ref D) (.ref C) = some b) : PySem.W.kitOne K (.ref D) (.ref C) = some b := by
  have hc : (PySem.W.clsIn K C).isSome = true := by
    unfold PySem.W.hasDictIn at h
    cases e : PySem.W.clsIn K C with
    | none => rw [e] at h; cases h
    | some c => rfl
  unfold PySem.W.kitOne
  rw [if_neg (by intro q; exact ne (Value.ref.inj (beq_iff_eq.mp q)))]
  have e2 : ((PySem.W.clsIn K C).isSome && PySem.W.typeIn K (.ref C) == some (.type "type")) = true := by rw [hc, ht] <;> rfl
  show (if ((PySem.W.clsIn K C).isSome && PySem.W.typeIn K (.ref C) == some (.type "type")) = true then PySem.W.subIn K (.ref D) (.ref C) else none) = some b
  rw [if_pos e2]
  exact hs
theorem all_at {l : PySem.W.OpenLaw} {w : World} {K : PySem.W.Frag} {h : Heap} {mg : Str → Option Value} {fa fD fP fPen fLe fBi fCo fWd fNu fAr fLo fBe fPa fRd fTd fCS fSP fAv fRL fRN fRS fRP fDe fLaw fI fLn fEq fSr fBC fT fR pR C CB CT B  : Addr}
    {odD anD : Option Addr} {slD : Array (Option Value)} {ocD kVD dcD pmD ctD : Value} {cdD : Value}
    {odP anP : Option Addr} {slP : Array (Option Value)} {ocP kVP dcP pmP ctP : Value} {cdP : Value}
    {odPen anPen : Option Addr} {slPen : Array (Option Value)} {ocPen kVPen dcPen pmPen ctPen : Value} {cdPen : Value}
    {odLe anLe : Option Addr} {slLe : Array (Option Value)} {ocLe kVLe dcLe pmLe ctLe : Value} {cdLe : Value}
    {odBi anBi : Option Addr} {slBi : Array (Option Value)} {ocBi kVBi dcBi pmBi ctBi : Value} {cdBi : Value}
    {odCo anCo : Option Addr} {slCo : Array (Option Value)} {ocCo kVCo dcCo pmCo ctCo : Value} {cdCo : Value}
    {odWd anWd : Option Addr} {slWd : Array (Option Value)} {ocWd kVWd dcWd pmWd ctWd : Value} {cdWd : Value}
    {odNu anNu : Option Addr} {slNu : Array (Option Value)} {ocNu kVNu dcNu pmNu ctNu : Value} {cdNu : Value}
    {odAr anAr : Option Addr} {slAr : Array (Option Value)} {ocAr kVAr dcAr pmAr ctAr : Value} {cdAr : Value}
    {odLo anLo : Option Addr} {slLo : Array (Option Value)} {ocLo kVLo dcLo pmLo ctLo : Value} {cdLo : Value}
    {odBe anBe : Option Addr} {slBe : Array (Option Value)} {ocBe kVBe dcBe pmBe ctBe : Value} {cdBe : Value}
    {odPa anPa : Option Addr} {slPa : Array (Option Value)} {ocPa kVPa dcPa pmPa ctPa : Value} {cdPa : Value}
    {odRd anRd : Option Addr} {slRd : Array (Option Value)} {ocRd kVRd dcRd pmRd ctRd : Value} {cdRd : Value}
    {odTd anTd : Option Addr} {slTd : Array (Option Value)} {ocTd kVTd dcTd pmTd ctTd : Value} {cdTd : Value}
    {odCS anCS : Option Addr} {slCS : Array (Option Value)} {ocCS kVCS dcCS pmCS ctCS : Value} {cdCS : Value}
    {odSP anSP : Option Addr} {slSP : Array (Option Value)} {ocSP kVSP dcSP pmSP ctSP : Value} {cdSP : Value}
    {odAv anAv : Option Addr} {slAv : Array (Option Value)} {ocAv kVAv dcAv pmAv ctAv : Value} {cdAv : Value}
    {odRL anRL : Option Addr} {slRL : Array (Option Value)} {ocRL kVRL dcRL pmRL ctRL : Value} {cdRL : Value}
    {odRN anRN : Option Addr} {slRN : Array (Option Value)} {ocRN kVRN dcRN pmRN ctRN : Value} {cdRN : Value}
    {odRS anRS : Option Addr} {slRS : Array (Option Value)} {ocRS kVRS dcRS pmRS ctRS : Value} {cdRS : Value}
    {odRP anRP : Option Addr} {slRP : Array (Option Value)} {ocRP kVRP dcRP pmRP ctRP : Value} {cdRP : Value}
    {odDe anDe : Option Addr} {slDe : Array (Option Value)} {ocDe kVDe dcDe pmDe ctDe : Value} {cdDe : Value}
    {odLaw anLaw : Option Addr} {slLaw : Array (Option Value)} {ocLaw kVLaw dcLaw pmLaw ctLaw : Value} {cdLaw : Value}
    {odI anI : Option Addr} {slI : Array (Option Value)} {ocI kVI dcI pmI ctI : Value} {cdI : Value}
    {odLn anLn : Option Addr} {slLn : Array (Option Value)} {ocLn kVLn dcLn pmLn ctLn : Value} {cdLn : Value}
    {odEq anEq : Option Addr} {slEq : Array (Option Value)} {ocEq kVEq dcEq pmEq ctEq : Value} {cdEq : Value}
    {odSr anSr : Option Addr} {slSr : Array (Option Value)} {ocSr kVSr dcSr pmSr ctSr : Value} {cdSr : Value}
    {odBC anBC : Option Addr} {slBC : Array (Option Value)} {ocBC kVBC dcBC pmBC ctBC : Value} {cdBC : Value}
    {odT anT : Option Addr} {slT : Array (Option Value)} {ocT kVT dcT pmT ctT : Value} {cdT : Value}
    {odR anR : Option Addr} {slR : Array (Option Value)} {ocR kVR dcR pmR ctR : Value} {cdR : Value}
    {rsR : List Value}
    {ebnm ebq : Str} {ebN : Addr} {ebbs : List Value} {ebsn : List Str} {ebsub : List Value} {ebab : Bool} {ebcol : Option Bool} {ebdd : Option Addr} {ebm0 ebm1 ebm2 ebm3 ebm5 : Option Value}
    {etnm etq : Str} {etN : Addr} {etbs : List Value} {etsn : List Str} {etsub : List Value} {etab : Bool} {etcol : Option Bool} {etdd : Option Addr} {etm0 etm1 etm2 etm3 etm5 : Option Value}
    (X : K.In h) (G : h.Ns mainGlobals mg) (hfa : mg "law" = some (.ref fa))
    (aD : PySem.W.nsIn K mainGlobals "_law_draw" = some (some (.ref fD)))
    (lD : K.lookup fD = some ⟨ocD, odD, .func (PySem.W.fnOf "_law_draw" "_law_draw" (defArgs s__law_draw) (defBody s__law_draw) (defScope s__law_draw) .none kVD dcD pmD anD cdD ctD), slD⟩) (cD : PySem.W.codeIn K cdD "_law_draw" = true) (kD : PySem.W.keepIn K (.ref fD) = true)
    (aP : PySem.W.nsIn K mainGlobals "_law_pick" = some (some (.ref fP)))
    (lP : K.lookup fP = some ⟨ocP, odP, .func (PySem.W.fnOf "_law_pick" "_law_pick" (defArgs s__law_pick) (defBody s__law_pick) (defScope s__law_pick) .none kVP dcP pmP anP cdP ctP), slP⟩) (cP : PySem.W.codeIn K cdP "_law_pick" = true) (kP : PySem.W.keepIn K (.ref fP) = true)
    (aPen : PySem.W.nsIn K mainGlobals "_law_pen" = some (some (.ref fPen)))
    (lPen : K.lookup fPen = some ⟨ocPen, odPen, .func (PySem.W.fnOf "_law_pen" "_law_pen" (defArgs s__law_pen) (defBody s__law_pen) (defScope s__law_pen) .none kVPen dcPen pmPen anPen cdPen ctPen), slPen⟩) (cPen : PySem.W.codeIn K cdPen "_law_pen" = true) (kPen : PySem.W.keepIn K (.ref fPen) = true)
    (aLe : PySem.W.nsIn K mainGlobals "_law_letters" = some (some (.ref fLe)))
    (lLe : K.lookup fLe = some ⟨ocLe, odLe, .func (PySem.W.fnOf "_law_letters" "_law_letters" (defArgs s__law_letters) (defBody s__law_letters) (defScope s__law_letters) .none kVLe dcLe pmLe anLe cdLe ctLe), slLe⟩) (cLe : PySem.W.codeIn K cdLe "_law_letters" = true) (kLe : PySem.W.keepIn K (.ref fLe) = true)
    (aBi : PySem.W.nsIn K mainGlobals "_law_bits" = some (some (.ref fBi)))
    (lBi : K.lookup fBi = some ⟨ocBi, odBi, .func (PySem.W.fnOf "_law_bits" "_law_bits" (defArgs s__law_bits) (defBody s__law_bits) (defScope s__law_bits) .none kVBi dcBi pmBi anBi cdBi ctBi), slBi⟩) (cBi : PySem.W.codeIn K cdBi "_law_bits" = true) (kBi : PySem.W.keepIn K (.ref fBi) = true)
    (aCo : PySem.W.nsIn K mainGlobals "_law_code" = some (some (.ref fCo)))
    (lCo : K.lookup fCo = some ⟨ocCo, odCo, .func (PySem.W.fnOf "_law_code" "_law_code" (defArgs s__law_code) (defBody s__law_code) (defScope s__law_code) .none kVCo dcCo pmCo anCo cdCo ctCo), slCo⟩) (cCo : PySem.W.codeIn K cdCo "_law_code" = true) (kCo : PySem.W.keepIn K (.ref fCo) = true)
    (aWd : PySem.W.nsIn K mainGlobals "_law_words" = some (some (.ref fWd)))
    (lWd : K.lookup fWd = some ⟨ocWd, odWd, .func (PySem.W.fnOf "_law_words" "_law_words" (defArgs s__law_words) (defBody s__law_words) (defScope s__law_words) .none kVWd dcWd pmWd anWd cdWd ctWd), slWd⟩) (cWd : PySem.W.codeIn K cdWd "_law_words" = true) (kWd : PySem.W.keepIn K (.ref fWd) = true)
    (aNu : PySem.W.nsIn K mainGlobals "_law_number" = some (some (.ref fNu)))
    (lNu : K.lookup fNu = some ⟨ocNu, odNu, .func (PySem.W.fnOf "_law_number" "_law_number" (defArgs s__law_number) (defBody s__law_number) (defScope s__law_number) .none kVNu dcNu pmNu anNu cdNu ctNu), slNu⟩) (cNu : PySem.W.codeIn K cdNu "_law_number" = true) (kNu : PySem.W.keepIn K (.ref fNu) = true)
    (aAr : PySem.W.nsIn K mainGlobals "_law_are_values" = some (some (.ref fAr)))
    (lAr : K.lookup fAr = some ⟨ocAr, odAr, .func (PySem.W.fnOf "_law_are_values" "_law_are_values" (defArgs s__law_are_values) (defBody s__law_are_values) (defScope s__law_are_values) .none kVAr dcAr pmAr anAr cdAr ctAr), slAr⟩) (cAr : PySem.W.codeIn K cdAr "_law_are_values" = true) (kAr : PySem.W.keepIn K (.ref fAr) = true)
    (aLo : PySem.W.nsIn K mainGlobals "_law_loose" = some (some (.ref fLo)))
    (lLo : K.lookup fLo = some ⟨ocLo, odLo, .func (PySem.W.fnOf "_law_loose" "_law_loose" (defArgs s__law_loose) (defBody s__law_loose) (defScope s__law_loose) .none kVLo dcLo pmLo anLo cdLo ctLo), slLo⟩) (cLo : PySem.W.codeIn K cdLo "_law_loose" = true) (kLo : PySem.W.keepIn K (.ref fLo) = true)
    (aBe : PySem.W.nsIn K mainGlobals "_law_bent" = some (some (.ref fBe)))
    (lBe : K.lookup fBe = some ⟨ocBe, odBe, .func (PySem.W.fnOf "_law_bent" "_law_bent" (defArgs s__law_bent) (defBody s__law_bent) (defScope s__law_bent) .none kVBe dcBe pmBe anBe cdBe ctBe), slBe⟩) (cBe : PySem.W.codeIn K cdBe "_law_bent" = true) (kBe : PySem.W.keepIn K (.ref fBe) = true)
    (aPa : PySem.W.nsIn K mainGlobals "_law_pair" = some (some (.ref fPa)))
    (lPa : K.lookup fPa = some ⟨ocPa, odPa, .func (PySem.W.fnOf "_law_pair" "_law_pair" (defArgs s__law_pair) (defBody s__law_pair) (defScope s__law_pair) .none kVPa dcPa pmPa anPa cdPa ctPa), slPa⟩) (cPa : PySem.W.codeIn K cdPa "_law_pair" = true) (kPa : PySem.W.keepIn K (.ref fPa) = true)
    (aRd : PySem.W.nsIn K mainGlobals "_law_read" = some (some (.ref fRd)))
    (lRd : K.lookup fRd = some ⟨ocRd, odRd, .func (PySem.W.fnOf "_law_read" "_law_read" (defArgs s__law_read) (defBody s__law_read) (defScope s__law_read) .none kVRd dcRd pmRd anRd cdRd ctRd), slRd⟩) (cRd : PySem.W.codeIn K cdRd "_law_read" = true) (kRd : PySem.W.keepIn K (.ref fRd) = true)
    (aTd : PySem.W.nsIn K mainGlobals "_law_told" = some (some (.ref fTd)))
    (lTd : K.lookup fTd = some ⟨ocTd, odTd, .func (PySem.W.fnOf "_law_told" "_law_told" (defArgs s__law_told) (defBody s__law_told) (defScope s__law_told) .none kVTd dcTd pmTd anTd cdTd ctTd), slTd⟩) (cTd : PySem.W.codeIn K cdTd "_law_told" = true) (kTd : PySem.W.keepIn K (.ref fTd) = true)
    (aCS : PySem.W.nsIn K mainGlobals "check_states" = some (some (.ref fCS)))
    (lCS : K.lookup fCS = some ⟨ocCS, odCS, .func (PySem.W.fnOf "check_states" "check_states" (defArgs s_check_states) (defBody s_check_states) (defScope s_check_states) .none kVCS dcCS pmCS anCS cdCS ctCS), slCS⟩) (cCS : PySem.W.codeIn K cdCS "check_states" = true) (kCS : PySem.W.keepIn K (.ref fCS) = true)
    (aSP : PySem.W.nsIn K mainGlobals "strange_place" = some (some (.ref fSP)))
    (lSP : K.lookup fSP = some ⟨ocSP, odSP, .func (PySem.W.fnOf "strange_place" "strange_place" (defArgs s_strange_place) (defBody s_strange_place) (defScope s_strange_place) .none kVSP dcSP pmSP anSP cdSP ctSP), slSP⟩) (cSP : PySem.W.codeIn K cdSP "strange_place" = true) (kSP : PySem.W.keepIn K (.ref fSP) = true)
    (aAv : PySem.W.nsIn K mainGlobals "are_values" = some (some (.ref fAv)))
    (lAv : K.lookup fAv = some ⟨ocAv, odAv, .func (PySem.W.fnOf "are_values" "are_values" (defArgs s_are_values) (defBody s_are_values) (defScope s_are_values) .none kVAv dcAv pmAv anAv cdAv ctAv), slAv⟩) (cAv : PySem.W.codeIn K cdAv "are_values" = true) (kAv : PySem.W.keepIn K (.ref fAv) = true)
    (aRL : PySem.W.nsIn K mainGlobals "read_lines" = some (some (.ref fRL)))
    (lRL : K.lookup fRL = some ⟨ocRL, odRL, .func (PySem.W.fnOf "read_lines" "read_lines" (defArgs s_read_lines) (defBody s_read_lines) (defScope s_read_lines) .none kVRL dcRL pmRL anRL cdRL ctRL), slRL⟩) (cRL : PySem.W.codeIn K cdRL "read_lines" = true) (kRL : PySem.W.keepIn K (.ref fRL) = true)
    (aRN : PySem.W.nsIn K mainGlobals "read_number" = some (some (.ref fRN)))
    (lRN : K.lookup fRN = some ⟨ocRN, odRN, .func (PySem.W.fnOf "read_number" "read_number" (defArgs s_read_number) (defBody s_read_number) (defScope s_read_number) .none kVRN dcRN pmRN anRN cdRN ctRN), slRN⟩) (cRN : PySem.W.codeIn K cdRN "read_number" = true) (kRN : PySem.W.keepIn K (.ref fRN) = true)
    (aRS : PySem.W.nsIn K mainGlobals "read_state" = some (some (.ref fRS)))
    (lRS : K.lookup fRS = some ⟨ocRS, odRS, .func (PySem.W.fnOf "read_state" "read_state" (defArgs s_read_state) (defBody s_read_state) (defScope s_read_state) .none kVRS dcRS pmRS anRS cdRS ctRS), slRS⟩) (cRS : PySem.W.codeIn K cdRS "read_state" = true) (kRS : PySem.W.keepIn K (.ref fRS) = true)
    (aRP : PySem.W.nsIn K mainGlobals "read_pair" = some (some (.ref fRP)))
    (lRP : K.lookup fRP = some ⟨ocRP, odRP, .func (PySem.W.fnOf "read_pair" "read_pair" (defArgs s_read_pair) (defBody s_read_pair) (defScope s_read_pair) .none kVRP dcRP pmRP anRP cdRP ctRP), slRP⟩) (cRP : PySem.W.codeIn K cdRP "read_pair" = true) (kRP : PySem.W.keepIn K (.ref fRP) = true)
    (aDe : PySem.W.nsIn K mainGlobals "decimal" = some (some (.ref fDe)))
    (lDe : K.lookup fDe = some ⟨ocDe, odDe, .func (PySem.W.fnOf "decimal" "decimal" (defArgs s_decimal) (defBody s_decimal) (defScope s_decimal) .none kVDe dcDe pmDe anDe cdDe ctDe), slDe⟩) (cDe : PySem.W.codeIn K cdDe "decimal" = true) (kDe : PySem.W.keepIn K (.ref fDe) = true)
    (aLaw : PySem.W.nsIn K mainGlobals "law" = some (some (.ref fLaw)))
    (lLaw : K.lookup fLaw = some ⟨ocLaw, odLaw, .func (PySem.W.fnOf "law" "law" (defArgs s_law) (defBody s_law) (defScope s_law) .none kVLaw dcLaw pmLaw anLaw cdLaw ctLaw), slLaw⟩) (cLaw : PySem.W.codeIn K cdLaw "law" = true) (kLaw : PySem.W.keepIn K (.ref fLaw) = true)
    (aI : PySem.W.findIn K (.ref C) "__init__" = some (some (.ref fI))) (iI : PySem.W.isFn K (.ref fI) = true)
    (lI : K.lookup fI = some ⟨ocI, odI, .func (PySem.W.fnOf "__init__" "Code.__init__" (defArgs s_Code___init__) (defBody s_Code___init__) (defScope s_Code___init__) .none kVI dcI pmI anI cdI ctI), slI⟩) (cI : PySem.W.codeIn K cdI "Code.__init__" = true) (kI : PySem.W.keepIn K (.ref fI) = true)
    (aLn : PySem.W.findIn K (.ref C) "__len__" = some (some (.ref fLn))) (iLn : PySem.W.isFn K (.ref fLn) = true)
    (lLn : K.lookup fLn = some ⟨ocLn, odLn, .func (PySem.W.fnOf "__len__" "Code.__len__" (defArgs s_Code___len__) (defBody s_Code___len__) (defScope s_Code___len__) .none kVLn dcLn pmLn anLn cdLn ctLn), slLn⟩) (cLn : PySem.W.codeIn K cdLn "Code.__len__" = true) (kLn : PySem.W.keepIn K (.ref fLn) = true)
    (aEq : PySem.W.findIn K (.ref C) "__eq__" = some (some (.ref fEq))) (iEq : PySem.W.isFn K (.ref fEq) = true)
    (lEq : K.lookup fEq = some ⟨ocEq, odEq, .func (PySem.W.fnOf "__eq__" "Code.__eq__" (defArgs s_Code___eq__) (defBody s_Code___eq__) (defScope s_Code___eq__) .none kVEq dcEq pmEq anEq cdEq ctEq), slEq⟩) (cEq : PySem.W.codeIn K cdEq "Code.__eq__" = true) (kEq : PySem.W.keepIn K (.ref fEq) = true)
    (aSr : PySem.W.findIn K (.ref C) "__str__" = some (some (.ref fSr))) (iSr : PySem.W.isFn K (.ref fSr) = true)
    (lSr : K.lookup fSr = some ⟨ocSr, odSr, .func (PySem.W.fnOf "__str__" "Code.__str__" (defArgs s_Code___str__) (defBody s_Code___str__) (defScope s_Code___str__) .none kVSr dcSr pmSr anSr cdSr ctSr), slSr⟩) (cSr : PySem.W.codeIn K cdSr "Code.__str__" = true) (kSr : PySem.W.keepIn K (.ref fSr) = true)
    (aBC : PySem.W.findIn K (.ref CB) "__init__" = some (some (.ref fBC))) (iBC : PySem.W.isFn K (.ref fBC) = true)
    (lBC : K.lookup fBC = some ⟨ocBC, odBC, .func (PySem.W.fnOf "__init__" "BadCode.__init__" (defArgs s_BadCode___init__) (defBody s_BadCode___init__) (defScope s_BadCode___init__) .none kVBC dcBC pmBC anBC cdBC ctBC), slBC⟩) (cBC : PySem.W.codeIn K cdBC "BadCode.__init__" = true) (kBC : PySem.W.keepIn K (.ref fBC) = true)
    (aT : PySem.W.findIn K (.ref CT) "__init__" = some (some (.ref fT))) (iT : PySem.W.isFn K (.ref fT) = true)
    (lT : K.lookup fT = some ⟨ocT, odT, .func (PySem.W.fnOf "__init__" "BadText.__init__" (defArgs s_BadText___init__) (defBody s_BadText___init__) (defScope s_BadText___init__) .none kVT dcT pmT anT cdT ctT), slT⟩) (cT : PySem.W.codeIn K cdT "BadText.__init__" = true) (kT : PySem.W.keepIn K (.ref fT) = true)
    (aR : PySem.W.findCls K (.ref C) (.type "type") "read" = some (.get (.builtin "classmethod.__get__") (.ref pR) .none (.ref C))) (rR : PySem.W.recIn K pR "classmethod" = some (.ref fR :: rsR)) (gR : PySem.W.fnIn K fR = true)
    (lR : K.lookup fR = some ⟨ocR, odR, .func (PySem.W.fnOf "read" "Code.read" (defArgs s_Code_read) (defBody s_Code_read) (defScope s_Code_read) .none kVR dcR pmR anR cdR ctR), slR⟩) (cR : PySem.W.codeIn K cdR "Code.read" = true) (kR : PySem.W.keepIn K (.ref fR) = true)
    (z_int : PySem.W.nsIn K mainGlobals "int" = some none)
    (z_len : PySem.W.nsIn K mainGlobals "len" = some none)
    (z_list : PySem.W.nsIn K mainGlobals "list" = some none)
    (z_range : PySem.W.nsIn K mainGlobals "range" = some none)
    (z_sorted : PySem.W.nsIn K mainGlobals "sorted" = some none)
    (z_any : PySem.W.nsIn K mainGlobals "any" = some none)
    (z_tuple : PySem.W.nsIn K mainGlobals "tuple" = some none)
    (z_enumerate : PySem.W.nsIn K mainGlobals "enumerate" = some none)
    (z_min : PySem.W.nsIn K mainGlobals "min" = some none)
    (z_set : PySem.W.nsIn K mainGlobals "set" = some none)
    (z_isinstance : PySem.W.nsIn K mainGlobals "isinstance" = some none)
    (z_str : PySem.W.nsIn K mainGlobals "str" = some none)
    (z_reversed : PySem.W.nsIn K mainGlobals "reversed" = some none)
    (z_zip : PySem.W.nsIn K mainGlobals "zip" = some none)
    (ebC : PySem.W.nsIn K mainGlobals "BadCode" = some (some (.ref CB))) (ebL : K.lookup CB = some (excClassObj ebnm ebq CB ebN ebbs [.ref B, .type "ValueError", .type "Exception", .type "BaseException", .type "object"] true ebsn ebsub ebab ebcol ebdd ebm0 ebm1 ebm2 ebm3 ebm5 "ValueError.__new__"))
    (ebsa : PySem.W.findIn K (.ref CB) "__setattr__" = some (some (.builtin "object.__setattr__"))) (ebex : PySem.W.subIn K (.ref CB) (.type "BaseException") = some true) (ebty : PySem.W.typeIn K (.ref CB) = some (.type "type")) (ebkc : PySem.W.keepIn K (.ref CB) = true)
    (ebtI : PySem.W.typeIn K (.ref fBC) = some (.type "function")) (ebnf : PySem.W.findIn K (.ref CB) "state" = some none)
    (ebga : PySem.W.findIn K (.ref CB) "__getattribute__" = some (some (.builtin "BaseException.__getattribute__"))) (ebgg : PySem.W.findIn K (.ref CB) "__getattr__" = some none) (ebhd : PySem.W.hasDictIn K CB = true) (ebss : PySem.W.subIn K (.ref CB) (.ref CB) = some true)
    (etC : PySem.W.nsIn K mainGlobals "BadText" = some (some (.ref CT))) (etL : K.lookup CT = some (excClassObj etnm etq CT etN etbs [.ref B, .type "ValueError", .type "Exception", .type "BaseException", .type "object"] true etsn etsub etab etcol etdd etm0 etm1 etm2 etm3 etm5 "ValueError.__new__"))
    (etsa : PySem.W.findIn K (.ref CT) "__setattr__" = some (some (.builtin "object.__setattr__"))) (etex : PySem.W.subIn K (.ref CT) (.type "BaseException") = some true) (etty : PySem.W.typeIn K (.ref CT) = some (.type "type")) (etkc : PySem.W.keepIn K (.ref CT) = true)
    (ettI : PySem.W.typeIn K (.ref fT) = some (.type "function")) (etnf : PySem.W.findIn K (.ref CT) "line" = some none)
    (etga : PySem.W.findIn K (.ref CT) "__getattribute__" = some (some (.builtin "BaseException.__getattribute__"))) (etgg : PySem.W.findIn K (.ref CT) "__getattr__" = some none) (ethd : PySem.W.hasDictIn K CT = true) (etss : PySem.W.subIn K (.ref CT) (.ref CT) = some true)
    (BC : PySem.W.nsIn K mainGlobals "CodeError" = some (some (.ref B))) (Bs0 : PySem.W.specialIn K (.ref B) "__getattribute__" = some (some (.builtin "type.__getattribute__"))) (Br : PySem.W.readsIn K B (.type "type") = true)
    (Bv : PySem.W.findCls K (.ref B) (.type "type") "__init__" = some (.val (.builtin "ValueError.__init__")))
    (ms : ∃ t, mg "MOST_DIGITS" = some (.int 4000 t))
    (cC : PySem.W.nsIn K mainGlobals "Code" = some (some (.ref C))) (cpg : PySem.W.plainGet K C Str.empty = true) (chd : PySem.W.hasDictIn K C = true) (cpo : PySem.W.plainOver K C = true) (csa : PySem.W.findIn K (.ref C) "__setattr__" = some (some (.builtin "object.__setattr__"))) (cmk : PySem.W.makesIn K C = true) (ckc : PySem.W.keepIn K (.ref C) = true)
    (cnL : PySem.W.findIn K (.ref C) "letters" = some none) (cnR : PySem.W.findIn K (.ref C) "rows" = some none) (cnE : PySem.W.findIn K (.ref C) "ends" = some none)
    (qa : PySem.W.findIn K (.ref C) "__class__" = some (some (.builtin "object.__class__"))) (qn : PySem.W.specialIn K (.builtin "object.__class__") "__get__" = some (some (.builtin "getset_descriptor.__get__"))) (qt : PySem.W.takesIn K (.builtin "object.__class__") = some true) (qm : PySem.W.mroIn K C (.type "object") = some true)
    (qy : PySem.W.typeIn K (.ref C) = some (.type "type")) (qs : PySem.W.subIn K (.type "tuple") (.ref C) = some false)
    (crd : PySem.W.readsIn K C (.type "type") = true) (cga : PySem.W.specialIn K (.ref C) "__getattribute__" = some (some (.builtin "type.__getattribute__"))) :
    ∃ fd : FuncData, (∀ (s : Shared) (v : Value), BindsTo s fd ⟨[v], []⟩ [("_law_script", v)]) ∧ ∀ base : Heap, K.In base → base.Ns mainGlobals mg → FnOk l.prog w K mg base CX0 8 fa fd ["_law_script"] (spLaw K) := by
  have e := hfa.symm.trans (PySem.W.mg_of X G aLaw)
  cases e
  have FD := fun_mk (st := s__law_draw) lD cD kD
  have bD := FD.binds (ps := P__law_draw) fun _ _ _ _ _ _ us hl => match us, hl with | [_, _], _ => rfl
  have FP := fun_mk (st := s__law_pick) lP cP kP
  have bP := FP.binds (ps := P__law_pick) fun _ _ _ _ _ _ us hl => match us, hl with | [_, _], _ => rfl
  have FPen := fun_mk (st := s__law_pen) lPen cPen kPen
  have bPen := FPen.binds (ps := P__law_pen) fun _ _ _ _ _ _ us hl => match us, hl with | [_], _ => rfl
  have FLe := fun_mk (st := s__law_letters) lLe cLe kLe
  have bLe := FLe.binds (ps := P__law_letters) fun _ _ _ _ _ _ us hl => match us, hl with | [_, _], _ => rfl
  have FBi := fun_mk (st := s__law_bits) lBi cBi kBi
  have bBi := FBi.binds (ps := P__law_bits) fun _ _ _ _ _ _ us hl => match us, hl with | [_], _ => rfl
  have FCo := fun_mk (st := s__law_code) lCo cCo kCo
  have bCo := FCo.binds (ps := P__law_code) fun _ _ _ _ _ _ us hl => match us, hl with | [_, _, _], _ => rfl
  have FWd := fun_mk (st := s__law_words) lWd cWd kWd
  have bWd := FWd.binds (ps := P__law_words) fun _ _ _ _ _ _ us hl => match us, hl with | [_], _ => rfl
  have FNu := fun_mk (st := s__law_number) lNu cNu kNu
  have bNu := FNu.binds (ps := P__law_number) fun _ _ _ _ _ _ us hl => match us, hl with | [_, _], _ => rfl
  have FAr := fun_mk (st := s__law_are_values) lAr cAr kAr
  have bAr := FAr.binds (ps := P__law_are_values) fun _ _ _ _ _ _ us hl => match us, hl with | [_], _ => rfl
  have FLo := fun_mk (st := s__law_loose) lLo cLo kLo
  have bLo := FLo.binds (ps := P__law_loose) fun _ _ _ _ _ _ us hl => match us, hl with | [_, _], _ => rfl
  have FBe := fun_mk (st := s__law_bent) lBe cBe kBe
  have bBe := FBe.binds (ps := P__law_bent) fun _ _ _ _ _ _ us hl => match us, hl with | [_, _, _], _ => rfl
  have FPa := fun_mk (st := s__law_pair) lPa cPa kPa
  have bPa := FPa.binds (ps := P__law_pair) fun _ _ _ _ _ _ us hl => match us, hl with | [_, _], _ => rfl
  have FRd := fun_mk (st := s__law_read) lRd cRd kRd
  have bRd := FRd.binds (ps := P__law_read) fun _ _ _ _ _ _ us hl => match us, hl with | [_], _ => rfl
  have FTd := fun_mk (st := s__law_told) lTd cTd kTd
  have bTd := FTd.binds (ps := P__law_told) fun _ _ _ _ _ _ us hl => match us, hl with | [_], _ => rfl
  have FCS := fun_mk (st := s_check_states) lCS cCS kCS
  have bCS := FCS.binds (ps := P_check_states) fun _ _ _ _ _ _ us hl => match us, hl with | [_, _, _], _ => rfl
  have FSP := fun_mk (st := s_strange_place) lSP cSP kSP
  have bSP := FSP.binds (ps := P_strange_place) fun _ _ _ _ _ _ us hl => match us, hl with | [_, _], _ => rfl
  have FAv := fun_mk (st := s_are_values) lAv cAv kAv
  have bAv := FAv.binds (ps := P_are_values) fun _ _ _ _ _ _ us hl => match us, hl with | [_], _ => rfl
  have FRL := fun_mk (st := s_read_lines) lRL cRL kRL
  have bRL := FRL.binds (ps := P_read_lines) fun _ _ _ _ _ _ us hl => match us, hl with | [_, _], _ => rfl
  have FRN := fun_mk (st := s_read_number) lRN cRN kRN
  have bRN := FRN.binds (ps := P_read_number) fun _ _ _ _ _ _ us hl => match us, hl with | [_], _ => rfl
  have FRS := fun_mk (st := s_read_state) lRS cRS kRS
  have bRS := FRS.binds (ps := P_read_state) fun _ _ _ _ _ _ us hl => match us, hl with | [_, _, _], _ => rfl
  have FRP := fun_mk (st := s_read_pair) lRP cRP kRP
  have bRP := FRP.binds (ps := P_read_pair) fun _ _ _ _ _ _ us hl => match us, hl with | [_, _], _ => rfl
  have FDe := fun_mk (st := s_decimal) lDe cDe kDe
  have bDe := FDe.binds (ps := P_decimal) fun _ _ _ _ _ _ us hl => match us, hl with | [_], _ => rfl
  have FLaw := fun_mk (st := s_law) lLaw cLaw kLaw
  have FI := fun_mk (st := s_Code___init__) lI cI kI
  have bI := FI.binds (ps := P_Code___init__) fun _ _ _ _ _ _ us hl => match us, hl with | [_, _, _, _], _ => rfl
  have FLn := fun_mk (st := s_Code___len__) lLn cLn kLn
  have bLn := FLn.binds (ps := P_Code___len__) fun _ _ _ _ _ _ us hl => match us, hl with | [_], _ => rfl
  have FEq := fun_mk (st := s_Code___eq__) lEq cEq kEq
  have bEq := FEq.binds (ps := P_Code___eq__) fun _ _ _ _ _ _ us hl => match us, hl with | [_, _], _ => rfl
  have FSr := fun_mk (st := s_Code___str__) lSr cSr kSr
  have bSr := FSr.binds (ps := P_Code___str__) fun _ _ _ _ _ _ us hl => match us, hl with | [_], _ => rfl
  have FBC := fun_mk (st := s_BadCode___init__) lBC cBC kBC
  have bBC := FBC.binds (ps := P_BadCode___init__) fun _ _ _ _ _ _ us hl => match us, hl with | [_, _], _ => rfl
  have FT := fun_mk (st := s_BadText___init__) lT cT kT
  have bT := FT.binds (ps := P_BadText___init__) fun _ _ _ _ _ _ us hl => match us, hl with | [_, _], _ => rfl
  have FR := fun_mk (st := s_Code_read) lR cR kR
  have bR := FR.binds (ps := P_Code_read) fun _ _ _ _ _ _ us hl => match us, hl with | [_, _], _ => rfl
  have TB : BaseT K mg "CodeError" B := ⟨PySem.W.mg_of X G BC, Bs0, Br, Bv⟩
  have Eeb : ErrT K mg "BadCode" "state" CB fBC := ⟨⟨⟨ebnm, ebq, ebN, ebbs, _, ebsn, ebsub, ebab, ebcol, ebdd, ebm0, ebm1, ebm2, ebm3, ebm5, ebL, by rfl⟩, ebsa, ebex, ebty, ebkc⟩, PySem.W.mg_of X G ebC, aBC, ebtI, ebnf, ⟨ebga, ebgg, ebex, ebhd⟩⟩
  have Eet : ErrT K mg "BadText" "line" CT fT := ⟨⟨⟨etnm, etq, etN, etbs, _, etsn, etsub, etab, etcol, etdd, etm0, etm1, etm2, etm3, etm5, etL, by rfl⟩, etsa, etex, etty, etkc⟩, PySem.W.mg_of X G etC, aT, ettI, etnf, ⟨etga, etgg, etex, ethd⟩⟩
  have TC : TxtC K mg B CB fBC := { len := PySem.W.mg_none_of X G z_len, any := PySem.W.mg_none_of X G z_any, tuple := PySem.W.mg_none_of X G z_tuple, enumerate := PySem.W.mg_none_of X G z_enumerate, base := TB, bc := Eeb }
  have TK : TxtK K mg C fCS B CB fBC := { TC with cl := ⟨cpg, chd, cpo, csa⟩, nL := cnL, nR := cnR, nE := cnE, mgCode := PySem.W.mg_of X G cC, mcheck_states := PySem.W.mg_of X G aCS, kcheck_states := kCS }
  have TQ : TxtQ K mg C fCS B CB fBC fEq fLn := { TK with isinstance := PySem.W.mg_none_of X G z_isinstance, ca := qa, cn := qn, ct := qt, cm := qm, kc := kit_self C, kt := kit_tupC chd qy qs, eqs := aEq, eqf := iEq, lns := aLn, lnf := iLn, tsub := qs }
  have TP : TxtP K mg fD fP := { int := PySem.W.mg_none_of X G z_int, len := PySem.W.mg_none_of X G z_len, list := PySem.W.mg_none_of X G z_list, range := PySem.W.mg_none_of X G z_range, sorted := PySem.W.mg_none_of X G z_sorted, m_law_draw := PySem.W.mg_of X G aD, k_law_draw := kD, m_law_pick := PySem.W.mg_of X G aP, k_law_pick := kP }
  have TBi : TxtB K mg fD fP fBi := { TP with m_law_bits := PySem.W.mg_of X G aBi, k_law_bits := kBi }
  have TAv : TxtAv K mg fSP := { len := PySem.W.mg_none_of X G z_len, list := PySem.W.mg_none_of X G z_list, sorted := PySem.W.mg_none_of X G z_sorted, set := PySem.W.mg_none_of X G z_set, enumerate := PySem.W.mg_none_of X G z_enumerate, mstrange_place := PySem.W.mg_of X G aSP, kstrange_place := kSP }
  have TRP : TxtRP K mg fRN := { len := PySem.W.mg_none_of X G z_len, mread_number := PySem.W.mg_of X G aRN, kread_number := kRN }
  have TRS : TxtRS K mg fRN fRP := { len := PySem.W.mg_none_of X G z_len, mread_number := PySem.W.mg_of X G aRN, kread_number := kRN, mread_pair := PySem.W.mg_of X G aRP, kread_pair := kRP }
  have TRL : TxtRL K mg B CT fT fAv := { base := TB, bt := Eet, len := PySem.W.mg_none_of X G z_len, mare_values := PySem.W.mg_of X G aAv, kare_values := kAv }
  have TRd : TxtRd K mg B CT fT fRL fRS := { base := TB, bt := Eet, len := PySem.W.mg_none_of X G z_len, enumerate := PySem.W.mg_none_of X G z_enumerate, mread_lines := PySem.W.mg_of X G aRL, kread_lines := kRL, mread_state := PySem.W.mg_of X G aRS, kread_state := kRS }
  have TDe : TxtDe mg := { str := PySem.W.mg_none_of X G z_str, reversed := PySem.W.mg_none_of X G z_reversed }
  have TSr : TxtSr K mg C fDe := { cl := ⟨cpg, chd, cpo, csa⟩, nL := cnL, nR := cnR, nE := cnE, zip := PySem.W.mg_none_of X G z_zip, mdecimal := PySem.W.mg_of X G aDe, kdecimal := kDe }
  have cr : ClX.CRead K C (.type "type") := ⟨crd, cga⟩
  have cm : ClX.CMet K C (.type "type") "read" pR fR := ⟨aR, ⟨_, rR⟩, gR⟩
  have TTd : TxtTd K mg C CT fT pR fR (.type "type") := { bt := Eet, mgCode := PySem.W.mg_of X G cC, cr := cr, cm := cm, te := PySem.W.exm_ref etex ethd etty etss }
  have TPL : TxtPL K mg fNu := { len := PySem.W.mg_none_of X G z_len, m_law_number := PySem.W.mg_of X G aNu, k_law_number := kNu }
  have TLr : TxtLr K mg C fWd fNu fAr fPa := { TP with mgCode := PySem.W.mg_of X G cC, m_law_words := PySem.W.mg_of X G aWd, k_law_words := kWd, m_law_number := PySem.W.mg_of X G aNu, k_law_number := kNu, m_law_are_values := PySem.W.mg_of X G aAr, k_law_are_values := kAr, m_law_pair := PySem.W.mg_of X G aPa, k_law_pair := kPa }
  have TLaw : TxtLaw K mg fD fP fPen fLe fCo fTd fRd fBe fLo C fEq fSr pR fR (.type "type") := { TP with min := PySem.W.mg_none_of X G z_min, str := PySem.W.mg_none_of X G z_str, mgCode := PySem.W.mg_of X G cC, eqs := aEq, eqf := iEq, srs := aSr, srf := iSr, cr := cr, cm := cm, m_law_pen := PySem.W.mg_of X G aPen, k_law_pen := kPen, m_law_letters := PySem.W.mg_of X G aLe, k_law_letters := kLe, m_law_code := PySem.W.mg_of X G aCo, k_law_code := kCo, m_law_told := PySem.W.mg_of X G aTd, k_law_told := kTd, m_law_read := PySem.W.mg_of X G aRd, k_law_read := kRd, m_law_bent := PySem.W.mg_of X G aBe, k_law_bent := kBe, m_law_loose := PySem.W.mg_of X G aLo, k_law_loose := kLo }
  refine ⟨PySem.W.fnOf "law" "law" (defArgs s_law) (defBody s_law) (defScope s_law) .none kVLaw dcLaw pmLaw anLaw cdLaw ctLaw, fun s v => .of_eq rfl, fun base KB GB => ?_⟩
  have GI : FnOk l.prog w K mg base (L2.CX l.prog w) 4 fI _ P_Code___init__ (spInit K C CB) := ok_init FI TK FCS bCS FBC bBC
  have GDe : FnOk l.prog w K mg base CX0 1 fDe _ P_decimal spDec := ok_dec FDe TDe
  have GSr : FnOk l.prog w K mg base CX0 2 fSr _ P_Code___str__ (spStrC K C) := ok_strC FSr TSr GDe bDe
  have GEq : FnOk l.prog w K mg base CX0 1 fEq _ P_Code___eq__ (spEqC K C) := ok_eq FEq TQ
  have GRN : FnOk l.prog w K mg base CX0 1 fRN _ P_read_number spReadN := ok_readN FRN (PySem.W.mg_none_of X G z_len) (PySem.W.mg_none_of X G z_int) ms
  have GAv : FnOk l.prog w K mg base CX0 2 fAv _ P_are_values spAreV := ok_areV FAv TAv FSP bSP
  have GRP : FnOk l.prog w K mg base CX0 2 fRP _ P_read_pair spReadP := ok_readP FRP TRP GRN bRN
  have GRS : FnOk l.prog w K mg base CX0 3 fRS _ P_read_state (spReadSt K) := ok_readSt FRS TRS GRN bRN GRP bRP
  have GRL : FnOk l.prog w K mg base (L2.CX l.prog w) 4 fRL _ P_read_lines (spReadL K CT) := ok_readL FRL TRL FT bT GAv bAv
  have GR : FnOk l.prog w K mg base (L2.CX l.prog w) 6 fR _ P_Code_read (spRead K C CT) := ok_read FR TRd FT bT GRL bRL GRS bRS ⟨cmk, aI, iI, ckc⟩ GI bI
  have GW : FnOk l.prog w K mg base CX0 1 fWd _ P__law_words (spWords K) := ok_words FWd
  have GN : FnOk l.prog w K mg base CX0 1 fNu _ P__law_number spNumB := fnok_or (ok_numL FNu (PySem.W.mg_none_of X G z_len) (PySem.W.mg_none_of X G z_int)) (ok_numN FNu (PySem.W.mg_none_of X G z_len) (PySem.W.mg_none_of X G z_int))
  have GA : FnOk l.prog w K mg base CX0 1 fAr _ P__law_are_values spAreL := ok_areL FAr TP.toTxtA
  have GPa : FnOk l.prog w K mg base CX0 2 fPa _ P__law_pair spPairL := ok_pairL FPa TPL GN bNu
  have GRd : FnOk l.prog w K mg base (L2.CX l.prog w) 6 fRd _ P__law_read (spLawR K C) := ok_lawR FRd TLr GW bWd GN bNu GA bAr GPa bPa ⟨cmk, aI, iI, ckc⟩ GI bI
  have GTd : FnOk l.prog w K mg base CX0 7 fTd _ P__law_told (spToldS K C) := ok_toldS FTd TTd ((GR.raw bR .nil).imp fun vs H Q E h => by rw [List.append_nil]; exact h)
  have GBe : FnOk l.prog w K mg base CX0 3 fBe _ P__law_bent spBentL := ok_bentL FBe TP FD bD FP bP
  have GLo : FnOk l.prog w K mg base CX0 2 fLo _ P__law_loose spLoose := ok_loose FLo TP.toTxtD FD bD
  have GCo : FnOk l.prog w K mg base CX0 4 fCo _ P__law_code (spCode K) := ok_code FCo TBi FD bD FP bP FBi bBi
  have GPk : FnOk l.prog w K mg base CX0 2 fP _ P__law_pick (spPickL K) := ok_pickL FP TP.toTxtD FD bD
  exact FnOk.calm (ok_law FLaw TLaw FD bD GPk bP (ok_pen FPen TP.toTxtA) bPen (ok_letters FLe TP.toTxtD FD bD) bLe GCo bCo GTd bTd GRd bRd GBe bBe GLo bLo GEq bEq GSr bSr ((GR.raw bR .nil).imp fun vs H Q E h => by rw [List.append_nil]; exact h) ⟨cmk, aI, iI, ckc⟩ GI bI)
theorem walk {l : PySem.W.OpenLaw} {q : Program} {loose : List Str} {XP : (Str → Option Value) → Heap → Prop} {YP : World → Heap → Prop} {d : DefRec} {K : Params → PySem.W.Frag} (hn : l.most = some 63) (hdf : d.params.defaults = [])
    (hY : ∀ (w : World) (h : Heap), YP w h → (K w.params).In h)
    (F : ∀ (w : World) (mg : Str → Option Value) (fa : Addr) (h : Heap), (K w.params).In h → h.Ns mainGlobals mg → mg d.name = some (.ref fa) →
      ∃ fd : FuncData, (∀ (s : Shared) (u : Value), BindsTo s fd ⟨[u], []⟩ [("_law_script", u)]) ∧ ∀ base : Heap, (K w.params).In base → base.Ns mainGlobals mg → FnOk l.prog w (K w.params) mg base CX0 8 fa fd ["_law_script"] (spLaw (K w.params))) :
    PySem.W.WalkO q loose XP YP l.row.toRowW d [] (fun f vs => PySem.call f vs) :=
  L2.walk_of (n := 63) (k := 8) (x := "_law_script") (CX := fun _ => CX0) (sp := fun w => spLaw (K w.params)) hn (by decide) hdf ⟨rfl, by decide, by decide⟩ hY F (fun _ _ a ns hl _ hS => ⟨a, ns, rfl, hS, hl, fun _ => rfl⟩) fun _ _ _ _ _ z => z
end Vf
open PySem PySem.W PyProof.Rows
set_option maxRecDepth 100000 in
set_option maxHeartbeats 0 in
theorem PySem.Challenge.cw_bestcodes_k09_texts_of_codes_holds : PySem.Challenge.rw_bestcodes_k09_texts_of_codes.Holds := by
  w_on; o_law; k_head; (case hw => w_witness2)
  k_fill
  refine Vf.walk (l := PySem.Challenge.rw_bestcodes_k09_texts_of_codes) rfl rfl (fun w h Y => PySem.W.kIn_of Y) ?F
  case F =>
    intro w mg fa h KX G hmg
    refine' Vf.all_at KX G hmg ?aD ?lD ?cD ?kD ?aP ?lP ?cP ?kP ?aPen ?lPen ?cPen ?kPen ?aLe ?lLe ?cLe ?kLe ?aBi ?lBi ?cBi ?kBi ?aCo ?lCo ?cCo ?kCo ?aWd ?lWd ?cWd ?kWd ?aNu ?lNu ?cNu ?kNu ?aAr ?lAr ?cAr ?kAr ?aLo ?lLo ?cLo ?kLo ?aBe ?lBe ?cBe ?kBe ?aPa ?lPa ?cPa ?kPa ?aRd ?lRd ?cRd ?kRd ?aTd ?lTd ?cTd ?kTd ?aCS ?lCS ?cCS ?kCS ?aSP ?lSP ?cSP ?kSP ?aAv ?lAv ?cAv ?kAv ?aRL ?lRL ?cRL ?kRL ?aRN ?lRN ?cRN ?kRN ?aRS ?lRS ?cRS ?kRS ?aRP ?lRP ?cRP ?kRP ?aDe ?lDe ?cDe ?kDe ?aLaw ?lLaw ?cLaw ?kLaw ?aI ?iI ?lI ?cI ?kI ?aLn ?iLn ?lLn ?cLn ?kLn ?aEq ?iEq ?lEq ?cEq ?kEq ?aSr ?iSr ?lSr ?cSr ?kSr ?aBC ?iBC ?lBC ?cBC ?kBC ?aT ?iT ?lT ?cT ?kT ?aR ?rR ?gR ?lR ?cR ?kR ?z_int ?z_len ?z_list ?z_range ?z_sorted ?z_any ?z_tuple ?z_enumerate ?z_min ?z_set ?z_isinstance ?z_str ?z_reversed ?z_zip ?ebC ?ebL ?ebsa ?ebex ?ebty ?ebkc ?ebtI ?ebnf ?ebga ?ebgg ?ebhd ?ebss ?etC ?etL ?etsa ?etex ?etty ?etkc ?ettI ?etnf ?etga ?etgg ?ethd ?etss ?BC ?Bs0 ?Br ?Bv ?ms ?cC ?cpg ?chd ?cpo ?csa ?cmk ?ckc ?cnL ?cnR ?cnE ?qa ?qn ?qt ?qm ?qy ?qs ?crd ?cga
    (case ebC => k_is)
    (case etC => k_is)
    (case BC => k_is)
    (case cC => first | k_is | kernel_rfl)
    (case aD => k_is)
    (case lD => k_is)
    (case cD => k_is)
    (case kD => k_is)
    (case aP => k_is)
    (case lP => k_is)
    (case cP => k_is)
    (case kP => k_is)
    (case aPen => k_is)
    (case lPen => k_is)
    (case cPen => k_is)
    (case kPen => k_is)
    (case aLe => k_is)
    (case lLe => k_is)
    (case cLe => k_is)
    (case kLe => k_is)
    (case aBi => k_is)
    (case lBi => k_is)
    (case cBi => k_is)
    (case kBi => k_is)
    (case aCo => k_is)
    (case lCo => k_is)
    (case cCo => k_is)
    (case kCo => k_is)
    (case aWd => k_is)
    (case lWd => k_is)
    (case cWd => k_is)
    (case kWd => k_is)
    (case aNu => k_is)
    (case lNu => k_is)
    (case cNu => k_is)
    (case kNu => k_is)
    (case aAr => k_is)
    (case lAr => k_is)
    (case cAr => k_is)
    (case kAr => k_is)
    (case aLo => k_is)
    (case lLo => k_is)
    (case cLo => k_is)
    (case kLo => k_is)
    (case aBe => k_is)
    (case lBe => k_is)
    (case cBe => k_is)
    (case kBe => k_is)
    (case aPa => k_is)
    (case lPa => k_is)
    (case cPa => k_is)
    (case kPa => k_is)
    (case aRd => k_is)
    (case lRd => k_is)
    (case cRd => k_is)
    (case kRd => k_is)
    (case aTd => k_is)
    (case lTd => k_is)
    (case cTd => k_is)
    (case kTd => k_is)
    (case aCS => k_is)
    (case lCS => k_is)
    (case cCS => k_is)
    (case kCS => k_is)
    (case aSP => k_is)
    (case lSP => k_is)
    (case cSP => k_is)
    (case kSP => k_is)
    (case aAv => k_is)
    (case lAv => k_is)
    (case cAv => k_is)
    (case kAv => k_is)
    (case aRL => k_is)
    (case lRL => k_is)
    (case cRL => k_is)
    (case kRL => k_is)
    (case aRN => k_is)
    (case lRN => k_is)
    (case cRN => k_is)
    (case kRN => k_is)
    (case aRS => k_is)
    (case lRS => k_is)
    (case cRS => k_is)
    (case kRS => k_is)
    (case aRP => k_is)
    (case lRP => k_is)
    (case cRP => k_is)
    (case kRP => k_is)
    (case aDe => k_is)
    (case lDe => k_is)
    (case cDe => k_is)
    (case kDe => k_is)
    (case aLaw => k_is)
    (case lLaw => k_is)
    (case cLaw => k_is)
    (case kLaw => k_is)
    (case aI => k_is)
    (case iI => k_is)
    (case lI => k_is)
    (case cI => k_is)
    (case kI => k_is)
    (case aLn => k_is)
    (case iLn => k_is)
    (case lLn => k_is)
    (case cLn => k_is)
    (case kLn => k_is)
    (case aEq => k_is)
    (case iEq => k_is)
    (case lEq => k_is)
    (case cEq => k_is)
    (case kEq => k_is)
    (case aSr => k_is)
    (case iSr => k_is)
    (case lSr => k_is)
    (case cSr => k_is)
    (case kSr => k_is)
    (case aBC => k_is)
    (case iBC => k_is)
    (case lBC => k_is)
    (case cBC => k_is)
    (case kBC => k_is)
    (case aT => k_is)
    (case iT => k_is)
    (case lT => k_is)
    (case cT => k_is)
    (case kT => k_is)
    (case aR => first | k_is | kernel_rfl)
    (case rR => first | k_is | kernel_rfl)
    (case gR => first | k_is | kernel_rfl)
    (case lR => k_is)
    (case cR => k_is)
    (case kR => k_is)
    (case z_int => k_is)
    (case z_len => k_is)
    (case z_list => k_is)
    (case z_range => k_is)
    (case z_sorted => k_is)
    (case z_any => k_is)
    (case z_tuple => k_is)
    (case z_enumerate => k_is)
    (case z_min => k_is)
    (case z_set => k_is)
    (case z_isinstance => k_is)
    (case z_str => k_is)
    (case z_reversed => k_is)
    (case z_zip => k_is)
    (case ebL => k_is)
    (case ebsa => k_is)
    (case ebex => k_is)
    (case ebty => k_is)
    (case ebkc => k_is)
    (case ebtI => k_is)
    (case ebnf => k_is)
    (case ebga => k_is)
    (case ebgg => k_is)
    (case ebhd => k_is)
    (case ebss => k_is)
    (case etL => k_is)
    (case etsa => k_is)
    (case etex => k_is)
    (case etty => k_is)
    (case etkc => k_is)
    (case ettI => k_is)
    (case etnf => k_is)
    (case etga => k_is)
    (case etgg => k_is)
    (case ethd => k_is)
    (case etss => k_is)
    (case Bs0 => k_is)
    (case Br => k_is)
    (case Bv => k_is)
    (case ms => exact ⟨_, PySem.W.mg_of KX G (by k_is)⟩)
    (case cpg => first | k_is | kernel_rfl)
    (case chd => first | k_is | kernel_rfl)
    (case cpo => first | k_is | kernel_rfl)
    (case csa => first | k_is | kernel_rfl)
    (case cmk => first | k_is | kernel_rfl)
    (case ckc => first | k_is | kernel_rfl)
    (case cnL => first | k_is | kernel_rfl)
    (case cnR => first | k_is | kernel_rfl)
    (case cnE => first | k_is | kernel_rfl)
    (case qa => first | k_is | kernel_rfl)
    (case qn => first | k_is | kernel_rfl)
    (case qt => first | k_is | kernel_rfl)
    (case qm => first | k_is | kernel_rfl)
    (case qy => first | k_is | kernel_rfl)
    (case qs => first | k_is | kernel_rfl)
    (case crd => first | k_is | kernel_rfl)
    (case cga => first | k_is | kernel_rfl)
#print axioms PySem.Challenge.cw_bestcodes_k09_texts_of_codes_holds
