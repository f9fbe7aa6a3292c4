import PyProof.Rows.All
import Wide.All
import OpenK.AllK
import Wide.FinOn
import HandS.ForMost
import HandS.Wide
import HandS.ExcInit
import HandS.ExcField
import HandS.WordsExc
import HandS.Style
import KE.GoesEnum
import HandS.Walk
import PyProof.EnumMake
import KE.GoesMore
import HandS.ExcOwn
import HandS.Exc
import HandS.Replace
import HandS.NestedK
import KE.KDictDisplayH
import KE.GoesZip
import HandS.List
import HandS.Set
import HandS.SetFor
import HandS.SetTxtIn
import HandS.Strs
import PyProof.ListStr
import HandS.OwnEq
import HandS.NamedTupGet
import HandS.SlotsOwn
import PyProof.Rows.Range3
import HandS.DictComp
import HandS.FStr
import KE.GoesEnumKw
import HandS.Iter
import HandS.IterVal
import HandS.StrMore
import HandS.Codes
import HandS.Deep
import HandS.Steps
import HandS.Call
import HandS.IsInst
import HandS.ClsMeth
import HandS.ExcIs
import PyProof.StrOps2
import PySem.Challenge.RW_bestcodes_k10_texts_of_shapes
set_option Elab.async false
set_option linter.all false
set_option maxRecDepth 100000
set_option maxHeartbeats 4000000
/-! the pen -/
namespace Vf
open PySem L2 PyProof.Rows
theorem nCA : ¬ (("cells" : Str) = "at") := by decide +kernel
theorem nCL : ¬ (("cells" : Str) = "left") := by decide +kernel
theorem nAL : ¬ (("at" : Str) = "left") := by decide +kernel
theorem nAC : ¬ (("at" : Str) = "cells") := by decide +kernel
theorem nLC : ¬ (("left" : Str) = "cells") := by decide +kernel
theorem nLA : ¬ (("left" : Str) = "at") := by decide +kernel
def penKV (c : Addr) (a l : Int) : List (Key × V) := [(Sum.inr "cells", .ref c), (Sum.inr "at", .int a), (Sum.inr "left", .int l)]
theorem pen_cells (c : Addr) (a l : Int) : valV (penKV c a l) (Sum.inr "cells") = some (.ref c) := by
  simp [valV, penKV]
theorem pen_at (c : Addr) (a l : Int) : valV (penKV c a l) (Sum.inr "at") = some (.int a) := by
  simp [valV, penKV, nCA]
theorem pen_left (c : Addr) (a l : Int) : valV (penKV c a l) (Sum.inr "left") = some (.int l) := by
  simp [valV, penKV, nCL, nAL]
theorem pen_putAt (c : Addr) (a l b : Int) : putK (penKV c a l) (Sum.inr "at") (.int b) = penKV c b l := by
  simp [putK, penKV, nCA, nLA]
theorem pen_putLeft (c : Addr) (a l b : Int) : putK (penKV c a l) (Sum.inr "left") (.int b) = penKV c a b := by
  simp [putK, penKV, nCL, nAL]
theorem pen_merge (c : Addr) (a l : Int) : mergeK [] (penKV c a l) = penKV c a l := by
  simp [mergeK, penKV, putK, nCA, nCL, nAL]
/-- what a call may leave of the heap: all but the pen at p -/
def Kp (p : Addr) (H H' : Hp) : Prop := ∀ b o, H b = some o → b ≠ p → H' b = some o
theorem Kp.refl (p : Addr) (H : Hp) : Kp p H H := fun _ _ h _ => h
theorem Kp.trans {p : Addr} {H H1 H2 : Hp} (a : Kp p H H1) (b : Kp p H1 H2) : Kp p H H2 := fun c o h n => b c o (a c o h n) n
theorem Kp.of {p : Addr} {H H1 : Hp} (s : Same H H1) : Kp p H H1 := fun b o h _ => s b o h
/-- the pen: a dict of the script's cells, the place, what is left -/
def PenO (H : Hp) (p c : Addr) (a l : Int) (cs : List Int) : Prop := H p = some (.dK (penKV c a l)) ∧ H c = some (.lst (cs.map V.int)) ∧ cs.length ≤ 63 ∧ 0 ≤ a ∧ 0 ≤ l
def Pen (H : Hp) (p c : Addr) (n : Nat) : Prop := ∃ a l cs, PenO H p c a l cs ∧ a ≤ n
theorem PenO.ne {H : Hp} {p c : Addr} {a l : Int} {cs : List Int} (P : PenO H p c a l cs) : c ≠ p := ne_of P.2.1 P.1 (by intro z; cases z)
theorem Pen.mono {H : Hp} {p c : Addr} {n m : Nat} (P : Pen H p c n) (h : n ≤ m) : Pen H p c m := by
  obtain ⟨a, l, cs, q, r⟩ := P
  exact ⟨a, l, cs, q, by omega⟩
theorem Pen.same {H H' : Hp} {p c : Addr} {n : Nat} (P : Pen H p c n) (s : Same H H') : Pen H' p c n := by
  obtain ⟨a, l, cs, ⟨q1, q2, q3⟩, r⟩ := P
  exact ⟨a, l, cs, ⟨s _ _ q1, s _ _ q2, q3⟩, r⟩
theorem Pen.dk {H : Hp} {p c : Addr} {n : Nat} (P : Pen H p c n) : ∃ kvs, H p = some (.dK kvs) := by
  obtain ⟨a, l, cs, ⟨q1, _⟩, _⟩ := P
  exact ⟨_, q1⟩
/-- another object is written -/
theorem Pen.put {H : Hp} {p c r : Addr} {n : Nat} {o : HO} (P : Pen H p c n) (h1 : r ≠ p) (h2 : r ≠ c) : Pen (upd H r o) p c n := by
  obtain ⟨a, l, cs, ⟨q1, q2, q3⟩, z⟩ := P
  exact ⟨a, l, cs, ⟨by rw [upd_ne h1.symm]; exact q1, by rw [upd_ne h2.symm]; exact q2, q3⟩, z⟩
theorem Pen.new {H : Hp} {p c r : Addr} {n : Nat} (P : Pen H p c n) (h : H r = none) : r ≠ p ∧ r ≠ c := by
  obtain ⟨a, l, cs, ⟨q1, q2, q3⟩, z⟩ := P
  exact ⟨(ne_of_none q1 h).symm, (ne_of_none q2 h).symm⟩
theorem Kp.free {p c l : Addr} {n : Nat} {H H' : Hp} (k : Kp p H H') (P : Pen H' p c n) (h : H' l = none) : H l = none := by
  cases e : H l with
  | none => rfl
  | some o =>
    have := k l o e (P.new h).1
    rw [h] at this; cases this
theorem Kp.put {p r : Addr} {H H' : Hp} {o : HO} (k : Kp p H H') (h : H r = none) : Kp p H (upd H' r o) := fun b u e n => by
  rw [upd_ne (ne_of_none e h)]
  exact k b u e n
/-- a new object beside -/
theorem same_new {H : Hp} {a : Addr} {o : HO} (h : H a = none) : Same H (upd H a o) := fun b u e => by
  rw [upd_ne (ne_of_none e h)]
  exact e
theorem Same.upd {H H' : Hp} {a : Addr} {o : HO} (s : Same H H') (h : H a = none) : Same H (upd H' a o) := fun b u e => by
  rw [upd_ne (ne_of_none e h)]
  exact s b u e
theorem kp_upd {H : Hp} {p : Addr} {o : HO} : Kp p H (L2.upd H p o) := fun b u e n => by
  rw [upd_ne n]
  exact e
theorem dget_left {H : Hp} {p c : Addr} {a l : Int} (h : H p = some (.dK (penKV c a l))) : DGet H p (.str "left") (some (.int l)) := by
  have := DGet.k (k := Sum.inr "left") h
  rw [pen_left] at this
  exact this
theorem dget_at {H : Hp} {p c : Addr} {a l : Int} (h : H p = some (.dK (penKV c a l))) : DGet H p (.str "at") (some (.int a)) := by
  have := DGet.k (k := Sum.inr "at") h
  rw [pen_at] at this
  exact this
theorem dget_cells {H : Hp} {p c : Addr} {a l : Int} (h : H p = some (.dK (penKV c a l))) : DGet H p (.str "cells") (some (.ref c)) := by
  have := DGet.k (k := Sum.inr "cells") h
  rw [pen_cells] at this
  exact this
theorem dput_left {H : Hp} {p c : Addr} {a l b : Int} (h : H p = some (.dK (penKV c a l))) : DPut H p (.str "left") (.int b) (L2.upd H p (.dK (penKV c a b))) := by
  have := DPut.k (k := Sum.inr "left") (v := .int b) h (by show 3 < sizeLine; decide)
  rw [pen_putLeft] at this
  exact this
theorem dput_at {H : Hp} {p c : Addr} {a l b : Int} (h : H p = some (.dK (penKV c a l))) : DPut H p (.str "at") (.int b) (L2.upd H p (.dK (penKV c b l))) := by
  have := DPut.k (k := Sum.inr "at") (v := .int b) h (by show 3 < sizeLine; decide)
  rw [pen_putAt] at this
  exact this
theorem dp_ints (K : PySem.W.Frag) {H : Hp} {c : Addr} {cs : List Int} (h : H c = some (.lst (cs.map V.int))) : Dp K H (.ref c) (.list (cs.map PyData.int)) := by
  refine .lst (SqL.of h) ?_
  clear h
  induction cs with
  | nil => exact .nil
  | cons x r ih => exact .cons (.int x) ih
theorem eqv_ints_nil (cs : List Int) : PyData.eqv (.list (cs.map PyData.int)) (.list []) = cs.isEmpty := by
  cases cs with
  | nil => simp [PyData.eqv, PyData.eqvAll]
  | cons x r => simp [PyData.eqv, PyData.eqvAll]
theorem shaped_nil : SeqAt.shaped (.list []) = true := PySem.W.shaped_ints []
theorem fmod_bounds {x m : Int} (h : 0 < m) : 0 ≤ x.fmod m ∧ x.fmod m < m := by
  rw [Int.fmod_eq_emod_of_nonneg x (Int.le_of_lt h)]
  exact ⟨Int.emod_nonneg _ (by omega), Int.emod_lt_of_pos _ h⟩
theorem log_lt {m : Int} (h0 : 0 < m) (h : m < 2 ^ 200) : m.natAbs.log2 < 9000 := by
  have : m.natAbs < 2 ^ 200 := by omega
  exact Nat.lt_of_lt_of_le (PySem.Flt.log2_lt_of (by decide) this) (by decide)
end Vf
set_option Elab.async false
set_option linter.all false
set_option maxRecDepth 100000
set_option maxHeartbeats 4000000
/-! texts of one sign, letters -/
namespace Vf
open PySem L2 PyProof.Rows
/-- a text of one sign -/
def sg (c : Nat) : Str := ⟨#[c]⟩
theorem sg_tl (c : Nat) : TL.tl (sg c) = [c] := rfl
theorem sg_inj {c d : Nat} (h : sg c = sg d) : c = d := by
  have : TL.tl (sg c) = TL.tl (sg d) := by rw [h]
  rw [sg_tl, sg_tl] at this
  exact List.cons.inj this |>.1
theorem joinL_sg : ∀ cs : List Nat, TL.joinL [] ((cs.map sg).map TL.tl) = cs
  | [] => rfl
  | [c] => rfl
  | c :: d :: r => by
    have ih := joinL_sg (d :: r)
    show [c] ++ ([] ++ TL.joinL [] (((d :: r).map sg).map TL.tl)) = c :: d :: r
    rw [ih]; rfl
theorem join_sg (cs : List Nat) : TL.tl (Txt.join Str.empty (cs.map sg)) = cs := by
  rw [TL.join_eq, TL.tl_join]
  exact joinL_sg cs
theorem sum_sg (cs : List Nat) : ((cs.map sg).map (·.length)).sum = cs.length := by
  induction cs with
  | nil => rfl
  | cons c r ih =>
    simp only [List.map_cons, List.sum_cons, ih, List.length_cons]
    show 1 + r.length = r.length + 1
    omega
/-- what is a permutation of texts of one sign, is such -/
theorem perm_sg : ∀ {ys : List Str} {cs : List Nat}, ys.Perm (cs.map sg) → ∃ ds : List Nat, ys = ds.map sg ∧ ds.Perm cs := by
  intro ys cs h
  have hall : ∀ y ∈ ys, ∃ c, y = sg c := fun y hy => by
    obtain ⟨c, _, e⟩ := List.mem_map.mp (h.mem_iff.mp hy)
    exact ⟨c, e.symm⟩
  have : ∃ ds : List Nat, ys = ds.map sg := by
    clear h
    induction ys with
    | nil => exact ⟨[], rfl⟩
    | cons y r ih =>
      obtain ⟨c, e⟩ := hall y (List.mem_cons_self ..)
      obtain ⟨ds, e2⟩ := ih fun z hz => hall z (List.mem_cons_of_mem _ hz)
      exact ⟨c :: ds, by rw [e, e2]; rfl⟩
  obtain ⟨ds, e⟩ := this
  refine ⟨ds, e, ?_⟩
  rw [e] at h
  have g : ∀ l : List Nat, (l.map sg).map (fun s => s.cps.toList.headD 0) = l := fun l => by
    rw [List.map_map]
    exact List.map_id'' (fun c => rfl) l
  have := h.map (fun s : Str => s.cps.toList.headD 0)
  rw [g, g] at this
  exact this
theorem rising_sg : ∀ (cs : List Nat) (p : Nat), PyProof.Rows.risingS (sg p) (cs.map sg) = true → (p :: cs).Pairwise (· ≤ ·)
  | [], p, _ => List.pairwise_singleton _ _
  | c :: r, p, h => by
    have h' : (!PySem.Spec.ltCps (sg c).cps.toList (sg p).cps.toList && PyProof.Rows.risingS (sg c) (r.map sg)) = true := h
    rw [Bool.and_eq_true] at h'
    have ih := rising_sg r c h'.2
    have hpc : p ≤ c := by
      have h1 := h'.1
      have e : PySem.Spec.ltCps (sg c).cps.toList (sg p).cps.toList = PySem.Spec.ltCps [c] [p] := rfl
      rw [e] at h1
      by_cases q : c < p
      · exfalso
        simp [PySem.Spec.ltCps, q] at h1
      · omega
    refine List.pairwise_cons.mpr ⟨fun d hd => ?_, ih⟩
    rcases List.mem_cons.mp hd with e | hd
    · omega
    · have := (List.pairwise_cons.mp ih).1 d hd
      omega
theorem sorted_sg {cs : List Nat} (h : PyProof.Rows.sortedS (cs.map sg) = true) : cs.Pairwise (· ≤ ·) := by
  cases cs with
  | nil => exact List.Pairwise.nil
  | cons c r => exact rising_sg r c h
/-- letters: ascending, from a to z -/
def Ltr (z : Str) (m : Nat) : Prop := z.length = m ∧ (TL.tl z).Pairwise (· < ·) ∧ ∀ c ∈ TL.tl z, 97 ≤ c ∧ c ≤ 122
def alpha : List Nat := TL.tl (Str.ofString "abcdefghijklmnopqrstuvwxyz")
theorem alpha_nodup : alpha.Nodup := by decide +kernel
theorem alpha_all : ∀ c ∈ alpha, 97 ≤ c ∧ c ≤ 122 := by decide +kernel
theorem alpha_len : alpha.length = 26 := by decide +kernel
theorem ltr_of {fs ds L : List Nat} (hp : (fs ++ L).Perm alpha) (hd : ds.Perm fs) (hs : ds.Pairwise (· ≤ ·)) : ds.Pairwise (· < ·) ∧ ∀ c ∈ ds, 97 ≤ c ∧ c ≤ 122 := by
  have nd : (fs ++ L).Nodup := hp.nodup_iff.mpr alpha_nodup
  have ndf : ds.Nodup := hd.nodup_iff.mpr (List.nodup_append.mp nd).1
  refine ⟨?_, fun c hc => alpha_all c (hp.mem_iff.mp (List.mem_append_left _ (hd.mem_iff.mp hc)))⟩
  have : ds.Pairwise (fun a b => a ≤ b ∧ a ≠ b) := List.Pairwise.and hs ndf
  exact this.imp fun ⟨h1, h2⟩ => by omega
theorem cutS_tl (z : Str) (lo hi : Option Int) : TL.tl (cutS z lo hi) = ((TL.tl z).drop (HT.sIx z.length 0 lo)).take (HT.sIx z.length z.length hi - HT.sIx z.length 0 lo) := by
  unfold cutS TL.tl
  simp
theorem cut_to {z : Str} {j : Nat} (h : j ≤ z.length) : TL.tl (cutS z none (some (j : Int))) = (TL.tl z).take j := by
  rw [cutS_tl, HT.sIx_none, HT.sIx_nat, List.drop_zero, Nat.min_eq_left h, Nat.sub_zero]
theorem cut_from {z : Str} {j : Nat} (h : j ≤ z.length) : TL.tl (cutS z (some (j : Int)) none) = (TL.tl z).drop j := by
  rw [cutS_tl, HT.sIx_none, HT.sIx_nat, Nat.min_eq_left h]
  exact List.take_of_length_le (by rw [List.length_drop, TL.len_tl]; omega)
theorem kp_seq {K : PySem.W.Frag} {p a : Addr} {H H' : Hp} {kvs : List (Key × V)} {xs : List V} (k : Kp p H H') (hp : H p = some (.dK kvs)) (h : SqL K H a xs) : SqL K H' a xs := by
  rcases h with (h | ⟨o, h⟩) | h
  · exact .inl (.inl (k _ _ h (ne_of h hp (by intro z; cases z))))
  · exact .inl (.inr ⟨o, k _ _ h (ne_of h hp (by intro z; cases z))⟩)
  · exact .inr h
theorem kp_seqT {K : PySem.W.Frag} {p a : Addr} {H H' : Hp} {kvs : List (Key × V)} {xs : List V} (k : Kp p H H') (hp : H p = some (.dK kvs)) (h : SqT K H a xs) : SqT K H' a xs := by
  rcases h with (h | ⟨o, h⟩) | h
  · exact .inl (.inl (k _ _ h (ne_of h hp (by intro z; cases z))))
  · exact .inl (.inr ⟨o, k _ _ h (ne_of h hp (by intro z; cases z))⟩)
  · exact .inr h
theorem at_of' {α : Type} {xs : List α} {z : Int} {j : Nat} {v : α} (e : z = (j : Int)) (h : xs[j]? = some v) : atI xs z = some v := by
  rw [e]
  exact atI_nat h
end Vf
set_option Elab.async false
set_option linter.all false
set_option maxRecDepth 100000
set_option maxHeartbeats 4000000
namespace Vf
open PySem L2 PyProof.Rows
def top (i : Nat) : Stmt := PySem.Challenge.pw_bestcodes_k10_texts_of_shapes.main.body.getD i (.Pass ⟨0, 0, 0, 0⟩)
structure TxtA (K : PySem.W.Frag) (mg : Str → Option Value) : Prop where
  int : mg "int" = none
  len : mg "len" = none
  list : mg "list" = none
  range : mg "range" = none
  sorted : mg "sorted" = none
def spPen (K : PySem.W.Frag) : Sp := fun vs H Q _ => ∃ (s : Addr) (ns : List Int), vs = [.ref s] ∧ SqL K H s (ns.map V.int) ∧ ns.length ≤ 63 ∧
  ∀ (p c : Addr) (H' : Hp), H p = none → H c = none → Pen H' p c 0 → Same H H' → Q (.ref p) H'
def spDraw : Sp := fun vs H Q _ => ∃ (p c : Addr) (m : Int) (n : Nat), vs = [.ref p, .int m] ∧ Pen H p c n ∧ n ≤ 2 ^ 30 ∧ 0 < m ∧ m < 2 ^ 200 ∧
  ∀ (d : Int) (H' : Hp), 0 ≤ d → d < m → Pen H' p c (n + 1) → Kp p H H' → Q (.int d) H'
/-- a pick out of a list; out of a text -/
def spPickL (K : PySem.W.Frag) : Sp := fun vs H Q _ => ∃ (p c a : Addr) (xs : List V) (n : Nat), vs = [.ref p, .ref a] ∧ Pen H p c n ∧ n ≤ 2 ^ 30 ∧ SqL K H a xs ∧ 0 < xs.length ∧ xs.length ≤ 1000 ∧
  ∀ (j : Nat) (v : V) (H' : Hp), xs[j]? = some v → Pen H' p c (n + 1) → Kp p H H' → Q v H'
def spPickS : Sp := fun vs H Q _ => ∃ (p c : Addr) (z : Str) (n : Nat), vs = [.ref p, .str z] ∧ Pen H p c n ∧ n ≤ 2 ^ 30 ∧ 0 < z.length ∧ z.length ≤ 1000 ∧
  ∀ (j x : Nat) (H' : Hp), (TL.tl z)[j]? = some x → Pen H' p c (n + 1) → Kp p H H' → Q (.str (sg x)) H'
def spLetters : Sp := fun vs H Q _ => ∃ (p c : Addr) (m : Nat) (n : Nat), vs = [.ref p, .int m] ∧ Pen H p c n ∧ n ≤ 2 ^ 29 ∧ m ≤ 26 ∧
  ∀ (z : Str) (H' : Hp), Ltr z m → Pen H' p c (n + m) → Kp p H H' → Q (.str z) H'
def spBits : Sp := fun vs H Q _ => ∃ (p c : Addr) (n : Nat), vs = [.ref p] ∧ Pen H p c n ∧ n ≤ 2 ^ 29 ∧
  ∀ (d : Int) (H' : Hp), 0 ≤ d → d < 100 → Pen H' p c (n + 3) → Kp p H H' → Q (.int d) H'
section
variable {P : Program} {w : World} {K : PySem.W.Frag} {mg : Str → Option Value} {base : Heap}
abbrev s__law_pen : Stmt := top 17
abbrev N__law_pen : List Str := ["_law_script"]
abbrev P__law_pen : List Str := ["_law_script"]
theorem sc__law_pen : FnScope N__law_pen P__law_pen (defScope s__law_pen) := ⟨rfl, rfl, rfl, by decide +kernel, rfl, by decide +kernel, by decide +kernel⟩

theorem ok_pen {f : Addr} {fd : FuncData} (F : Fun K "_law_pen" "_law_pen" s__law_pen f fd) (T : TxtA K mg) : FnOk P w K mg base CX0 1 f fd P__law_pen (spPen K) := by
  refine F.ok sc__law_pen (fun vs H Q E h => ?_) (fun cdv A outer s H vs Q E hr h => ?_)
  · obtain ⟨s, ns, rfl, _⟩ := h
    rfl
  · obtain ⟨s, ns, rfl, hS, hl, k⟩ := h
    refine ⟨_, (pss_one (ps_ret (pe_disp (pps_cons pe_str (pe_callTy call_list_of (by rfl) T.list boot_list (pa_cons (pe_slice sl_list (pv 0) po_none (po_some pe_int)) pa_nil)) (pps_cons pe_str pe_int (pps_cons pe_str pe_int pps_nil))) (by rfl) (by rfl) (fun z => by cases z) (by decide)))), ?_⟩
    intro p hp
    have s1 : Same H (L2.upd H p (.dK [])) := same_new hp
    refine ⟨_, rfl, _, rfl, s, _, rfl, s1.seq hS, fun q hq => ?_⟩
    have nqp : q ≠ p := (ne_of_none (upd_same (H := H) (a := p)) hq).symm
    refine ⟨q, _, rfl, Or.inl (SqL.of upd_same), fun c hc => ?_⟩
    have ncp : c ≠ p := fun e => by rw [e, upd_ne nqp.symm, upd_same] at hc; cases hc
    have ncq : c ≠ q := fun e => by rw [e, upd_same] at hc; cases hc
    refine ⟨(by rw [upd_ne ncp.symm, upd_ne nqp.symm, upd_same]), penKV c 0 0, rfl, (by show 3 ≤ 15; decide), ?_⟩
    rw [pen_merge]
    have hcn : H c = none := s1.free ((same_new hq).free hc)
    have hqn : H q = none := s1.free hq
    have ec : cutV (ns.map V.int) none (some 63) = (ns.take 63).map V.int := by
      rw [List.take_of_length_le hl]
      unfold cutV
      simp [HT.sIx]
      exact List.take_of_length_le (by rw [List.length_map]; omega)
    refine k p c _ hp hcn ⟨0, 0, ns.take 63, ⟨upd_same, ?_, ?_, by decide, by decide⟩, by decide⟩ ?_
    · rw [upd_ne ncp, upd_same, ec]
    · rw [List.length_take]; omega
    · intro b o e
      rw [upd_ne (ne_of_none e hp), upd_ne (ne_of_none e hcn), upd_ne (ne_of_none e hqn), upd_ne (ne_of_none e hp)]
      exact e
abbrev s__law_draw : Stmt := top 18
abbrev N__law_draw : List Str := ["_law_pen_here", "_law_many", "_law_digit", "_law_at", "_law_cell", "_law_mixed"]
abbrev P__law_draw : List Str := ["_law_pen_here", "_law_many"]
theorem sc__law_draw : FnScope N__law_draw P__law_draw (defScope s__law_draw) := ⟨rfl, rfl, rfl, by decide +kernel, rfl, by decide +kernel, by decide +kernel⟩

theorem ok_draw {f : Addr} {fd : FuncData} (F : Fun K "_law_draw" "_law_draw" s__law_draw f fd) (T : TxtA K mg) : FnOk P w K mg base CX0 1 f fd P__law_draw spDraw := by
  refine F.ok sc__law_draw (fun vs H Q E h => ?_) (fun cdv A outer s H vs Q E hr h => ?_)
  · obtain ⟨p, c, m, n, rfl, _⟩ := h
    rfl
  · obtain ⟨p, c, m, n, rfl, ⟨a, l, cs, ⟨h1, h2, h3, h4, h5⟩, h6⟩, hn, m0, m1, k⟩ := h
    have hu := hu_of hr
    have ncp : c ≠ p := ne_of h2 h1 (by intro z; cases z)
    refine ⟨_, (pss_cons (ps_if (pt_cmpR op_ge (pe_dget hu (pv 0) pe_str (fun _ _ => rfl)) (pv 1) (nomark _)) (pss_cons (ps_set (i := 2) sc__law_draw.nd rfl (Or.inl rfl) (pe_op op_modN (pe_callTy call_int1 (by rfl) T.int boot_int (pa_cons (pe_dget hu (pv 0) pe_str (fun _ _ => rfl)) pa_nil)) (pv 1)))
      (pss_cons (ps_dput hu (pv 0) pe_str (pe_op op_fdivW (pe_dget hu (pv 0) pe_str (fun _ _ => rfl)) (pv 1)) rfl)
      (pss_one (ps_ret (pv 2))))) pss_nil)
      (pss_cons (ps_set (i := 3) sc__law_draw.nd rfl (Or.inl rfl) (pe_dget hu (pv 0) pe_str (fun _ _ => rfl)))
      (pss_cons (ps_dput hu (pv 0) pe_str (pe_op op_add (pv 3) pe_int) rfl)
      (pss_cons (ps_set (i := 4) sc__law_draw.nd rfl (Or.inl rfl) (pe_op op_add (pe_op op_mul pe_int (pv 3)) pe_int))
      (pss_cons (ps_if (pt_cmpR (op_neD hr.units) (pe_dget hu (pv 0) pe_str (fun _ _ => rfl)) (pe_lst pa_nil) (nomark _)) (pss_one (ps_set (i := 4) sc__law_draw.nd rfl (Or.inl rfl) (pe_ix ix_list (pe_dget hu (pv 0) pe_str (fun _ _ => rfl)) (pe_op op_modN (pe_callTy call_int1 (by rfl) T.int boot_int (pa_cons (pv 3) pa_nil)) (pe_callB call_len (by rfl) T.len PySem.boot_len (pa_cons (pe_dget hu (pv 0) pe_str (fun _ _ => rfl)) pa_nil))) (fun _ _ => rfl)))) pss_nil)
      (pss_cons (ps_if (PW.pt (pw_and (pt_cmpR op_lt (pv 3) (pe_callB call_len (by rfl) T.len PySem.boot_len (pa_cons (pe_dget hu (pv 0) pe_str (fun _ _ => rfl)) pa_nil)) (nomark _)) (pw_and1 (pt_cmpR op_ge (pv 4) (pe_op op_pow pe_int pe_int) (nomark _))))) (pss_cons (ps_dput hu (pv 0) pe_str (pe_op op_fdivW (pe_op op_sub (pv 4) (pe_op op_pow pe_int pe_int)) (pv 1)) rfl)
      (pss_one (ps_ret (pe_op op_modN (pe_callTy call_int1 (by rfl) T.int boot_int (pa_cons (pe_op op_sub (pv 4) (pe_op op_pow pe_int pe_int)) pa_nil)) (pv 1))))) pss_nil)
      (pss_cons (ps_set (i := 5) sc__law_draw.nd rfl (Or.inl rfl) (pe_op op_add (pe_op op_add (pe_op op_add (pe_op op_mul (pe_op op_modN (pe_callTy call_int1 (by rfl) T.int boot_int (pa_cons (pv 4) pa_nil)) pe_int) pe_int) (pe_op op_mul (pe_op op_mul pe_int (pv 3)) (pv 3))) (pe_op op_mul pe_int (pv 3))) pe_int))
      (pss_cons (ps_set (i := 5) sc__law_draw.nd rfl (Or.inl rfl) (pe_op op_modN (pe_callTy call_int1 (by rfl) T.int boot_int (pa_cons (pv 5) pa_nil)) pe_int))
      (pss_cons (ps_set (i := 5) sc__law_draw.nd rfl (Or.inl rfl) (pe_op op_modN (pe_callTy call_int1 (by rfl) T.int boot_int (pa_cons (pe_op op_mul (pv 5) (pe_op op_add (pv 5) pe_int)) pa_nil)) pe_int))
      (pss_one (ps_ret (pe_op op_modN (pe_callTy call_int1 (by rfl) T.int boot_int (pa_cons (pe_op op_fdivN (pe_op op_modN (pe_callTy call_int1 (by rfl) T.int boot_int (pa_cons (pe_op op_mul (pv 5) (pv 5)) pa_nil)) pe_int) pe_int) pa_nil)) (pv 1))))))))))))), ?_⟩
    -- if pen['left'] >= many
    refine ⟨_, rfl, p, _, rfl, dget_left h1, _, rfl, _, _, rfl, rfl, _, rfl, ite2 (fun c1 => ?_) (fun c1 => ?_)⟩
    · have c1 : m ≤ l := by simpa using c1
      refine ⟨_, rfl, p, _, rfl, dget_left h1, Or.inl ⟨_, rfl, _, rfl, _, _, rfl, rfl, (by omega), ?_⟩⟩
      refine ⟨_, rfl, p, _, rfl, dget_left h1, _, rfl, _, _, rfl, rfl, ⟨m0, log_lt m0 m1⟩, _, rfl, p, _, rfl, dput_left h1, ?_⟩
      refine ⟨_, rfl, k _ _ (fmod_bounds m0).1 (fmod_bounds m0).2 ⟨a, l / m, cs, ⟨upd_same, by rw [upd_ne ncp]; exact h2, h3, h4, Int.ediv_nonneg h5 (by omega)⟩, by omega⟩ kp_upd⟩
    · -- at; pen['at'] = at + 1; cell = 41 * at + 23
      refine ⟨_, rfl, p, _, rfl, dget_at h1, ?_⟩
      refine ⟨_, rfl, _, _, rfl, rfl, _, rfl, p, _, rfl, dput_at h1, ?_⟩
      have g1 : (L2.upd H p (.dK (penKV c (a + 1) l))) p = some (.dK (penKV c (a + 1) l)) := upd_same
      have g2 : (L2.upd H p (.dK (penKV c (a + 1) l))) c = some (.lst (cs.map V.int)) := by rw [upd_ne ncp]; exact h2
      have gk : Kp p H (L2.upd H p (.dK (penKV c (a + 1) l))) := kp_upd
      revert g1 g2 gk
      generalize L2.upd H p (.dK (penKV c (a + 1) l)) = H1
      intro g1 g2 gk
      refine ⟨_, rfl, _, _, rfl, rfl, Or.inl ⟨by decide, by decide⟩, _, _, rfl, rfl, ?_⟩
      -- the cell
      refine ⟨_, rfl, p, _, rfl, dget_cells g1, (by show 0 ≤ sizeLine; decide), fun q hq => ?_⟩
      have nqp : q ≠ p := (ne_of_none g1 hq).symm
      have nqc : q ≠ c := (ne_of_none g2 hq).symm
      have k1 : (L2.upd H1 q (.lst [])) p = some (.dK (penKV c (a + 1) l)) := by rw [upd_ne nqp.symm]; exact g1
      have k2 : (L2.upd H1 q (.lst [])) c = some (.lst (cs.map V.int)) := by rw [upd_ne nqc.symm]; exact g2
      have kk : Kp p H (L2.upd H1 q (.lst [])) := gk.trans (Kp.of (same_new hq))
      refine ⟨_, _, dp_ints K k2, .lst (SqL.of upd_same) .nil, PySem.W.shaped_ints cs, shaped_nil, _, rfl, ?_⟩
      rw [eqv_ints_nil]
      revert k1 k2 kk
      generalize L2.upd H1 q (.lst []) = H2
      intro k1 k2 kk
      refine ite2 (fun c2 => ?_) (fun c2 => ?_)
      · have hlen : 0 < cs.length := by cases cs with | nil => simp at c2 | cons x r => simp
        have hm := fmod_bounds (x := a) (m := ((cs.map V.int).length : Int)) (by rw [List.length_map]; omega)
        have hj : (a.fmod ((cs.map V.int).length : Int)).toNat < cs.length := by rw [List.length_map] at *; omega
        refine ⟨_, rfl, p, _, rfl, dget_cells k1, _, rfl, Or.inl ⟨_, rfl, _, rfl, p, _, rfl, dget_cells k1, _, _, rfl, Or.inl ⟨_, SqL.of k2, rfl⟩, _, _, rfl, rfl, (by rw [List.length_map]; omega), ?_⟩⟩
        refine ⟨c, _, _, V.int (cs[(a.fmod ((cs.map V.int).length : Int)).toNat]), rfl, rfl, SqL.of k2, ?_, ?_⟩
        · exact at_of (Int.toNat_of_nonneg hm.1).symm (by rw [List.getElem?_map, List.getElem?_eq_getElem hj]; rfl)
        · generalize cs[(a.fmod ((cs.map V.int).length : Int)).toNat] = x
          refine ⟨_, rfl, _, rfl, p, _, rfl, dget_cells k1, V.ref c, _, rfl, Or.inl ⟨_, SqL.of k2, rfl⟩, _, _, rfl, rfl, _, rfl, ite2 (fun c3 => ?_) (fun c3 => ?_)⟩
          · refine ⟨_, rfl, _, _, rfl, rfl, ⟨by decide, by decide, by decide⟩, _, _, rfl, rfl, _, rfl, ite2 (fun c4 => ?_) (fun c4 => ?_)⟩
            · have c4 : (10 : Int) ^ 18 ≤ x := by simpa using c4
              refine ⟨_, rfl, _, _, rfl, rfl, ⟨by decide, by decide, by decide⟩, _, _, rfl, rfl, _, rfl, _, _, rfl, rfl, ⟨m0, log_lt m0 m1⟩, _, rfl, p, _, rfl, dput_left k1, ?_⟩
              refine ⟨_, rfl, _, _, rfl, rfl, ⟨by decide, by decide, by decide⟩, _, _, rfl, rfl, Or.inl ⟨_, rfl, _, rfl, _, _, rfl, rfl, (by omega), ?_⟩⟩
              refine k _ _ (fmod_bounds m0).1 (fmod_bounds m0).2 ⟨a + 1, _, cs, ⟨upd_same, by rw [upd_ne ncp]; exact k2, h3, by omega, Int.ediv_nonneg ?_ (by omega)⟩, by omega⟩ (kk.trans kp_upd)
              show 0 ≤ x - 10 ^ 18
              omega
            · refine ⟨_, rfl, Or.inl ⟨_, rfl, _, _, rfl, rfl, (by show (2147483587 : Int) ≠ 0; decide), _, _, rfl, rfl, Or.inr ⟨by decide, by decide⟩, ?_⟩⟩
              refine ⟨_, rfl, _, _, rfl, rfl, Or.inl ⟨by decide, by decide⟩, _, rfl, _, _, rfl, rfl, Or.inr ⟨by omega, by omega⟩, ?_⟩
              refine ⟨_, _, rfl, rfl, _, rfl, _, _, rfl, rfl, Or.inl ⟨by decide, by decide⟩, _, _, rfl, rfl, _, _, rfl, rfl, ?_⟩
              refine ⟨_, rfl, Or.inl ⟨_, rfl, _, _, rfl, rfl, (by show (2147483629 : Int) ≠ 0; decide), ?_⟩⟩
              have hz := fmod_bounds (x := x.fmod 2147483587 * 48271 + 40014 * a * a + 59 * a + 17) (m := 2147483629) (by decide)
              refine ⟨_, rfl, _, rfl, _, _, rfl, rfl, _, _, rfl, rfl, Or.inl ⟨by omega, by omega⟩, Or.inl ⟨_, rfl, _, _, rfl, rfl, (by show (2147483549 : Int) ≠ 0; decide), ?_⟩⟩
              refine ⟨_, rfl, _, rfl, _, _, rfl, rfl, Or.inl ?_, Or.inl ⟨_, rfl, _, _, rfl, rfl, (by show (2147483579 : Int) ≠ 0; decide), _, _, rfl, rfl, ⟨by decide, by decide⟩, Or.inl ⟨_, rfl, _, rfl, _, _, rfl, rfl, (by omega), ?_⟩⟩⟩
              · have hy := fmod_bounds (x := (x.fmod 2147483587 * 48271 + 40014 * a * a + 59 * a + 17).fmod 2147483629 * ((x.fmod 2147483587 * 48271 + 40014 * a * a + 59 * a + 17).fmod 2147483629 + 69621)) (m := 2147483549) (by decide)
                exact ⟨by omega, by omega⟩
              exact k _ _ (fmod_bounds m0).1 (fmod_bounds m0).2 ⟨a + 1, l, cs, ⟨k1, k2, h3, by omega, h5⟩, by omega⟩ kk
          · refine ⟨_, rfl, Or.inl ⟨_, rfl, _, _, rfl, rfl, (by show (2147483587 : Int) ≠ 0; decide), _, _, rfl, rfl, Or.inr ⟨by decide, by decide⟩, ?_⟩⟩
            refine ⟨_, rfl, _, _, rfl, rfl, Or.inl ⟨by decide, by decide⟩, _, rfl, _, _, rfl, rfl, Or.inr ⟨by omega, by omega⟩, ?_⟩
            refine ⟨_, _, rfl, rfl, _, rfl, _, _, rfl, rfl, Or.inl ⟨by decide, by decide⟩, _, _, rfl, rfl, _, _, rfl, rfl, ?_⟩
            refine ⟨_, rfl, Or.inl ⟨_, rfl, _, _, rfl, rfl, (by show (2147483629 : Int) ≠ 0; decide), ?_⟩⟩
            have hz := fmod_bounds (x := x.fmod 2147483587 * 48271 + 40014 * a * a + 59 * a + 17) (m := 2147483629) (by decide)
            refine ⟨_, rfl, _, rfl, _, _, rfl, rfl, _, _, rfl, rfl, Or.inl ⟨by omega, by omega⟩, Or.inl ⟨_, rfl, _, _, rfl, rfl, (by show (2147483549 : Int) ≠ 0; decide), ?_⟩⟩
            refine ⟨_, rfl, _, rfl, _, _, rfl, rfl, Or.inl ?_, Or.inl ⟨_, rfl, _, _, rfl, rfl, (by show (2147483579 : Int) ≠ 0; decide), _, _, rfl, rfl, ⟨by decide, by decide⟩, Or.inl ⟨_, rfl, _, rfl, _, _, rfl, rfl, (by omega), ?_⟩⟩⟩
            · have hy := fmod_bounds (x := (x.fmod 2147483587 * 48271 + 40014 * a * a + 59 * a + 17).fmod 2147483629 * ((x.fmod 2147483587 * 48271 + 40014 * a * a + 59 * a + 17).fmod 2147483629 + 69621)) (m := 2147483549) (by decide)
              exact ⟨by omega, by omega⟩
            exact k _ _ (fmod_bounds m0).1 (fmod_bounds m0).2 ⟨a + 1, l, cs, ⟨k1, k2, h3, by omega, h5⟩, by omega⟩ kk
      · skip
        refine ⟨_, rfl, _, rfl, p, _, rfl, dget_cells k1, V.ref c, _, rfl, Or.inl ⟨_, SqL.of k2, rfl⟩, _, _, rfl, rfl, _, rfl, ite2 (fun c3 => ?_) (fun c3 => ?_)⟩
        · refine ⟨_, rfl, _, _, rfl, rfl, ⟨by decide, by decide, by decide⟩, _, _, rfl, rfl, _, rfl, ite2 (fun c4 => ?_) (fun c4 => ?_)⟩
          · have c4 : (10 : Int) ^ 18 ≤ 41 * a + 23 := by simpa using c4
            refine ⟨_, rfl, _, _, rfl, rfl, ⟨by decide, by decide, by decide⟩, _, _, rfl, rfl, _, rfl, _, _, rfl, rfl, ⟨m0, log_lt m0 m1⟩, _, rfl, p, _, rfl, dput_left k1, ?_⟩
            refine ⟨_, rfl, _, _, rfl, rfl, ⟨by decide, by decide, by decide⟩, _, _, rfl, rfl, Or.inl ⟨_, rfl, _, rfl, _, _, rfl, rfl, (by omega), ?_⟩⟩
            refine k _ _ (fmod_bounds m0).1 (fmod_bounds m0).2 ⟨a + 1, _, cs, ⟨upd_same, by rw [upd_ne ncp]; exact k2, h3, by omega, Int.ediv_nonneg ?_ (by omega)⟩, by omega⟩ (kk.trans kp_upd)
            show 0 ≤ 41 * a + 23 - 10 ^ 18
            omega
          · refine ⟨_, rfl, Or.inl ⟨_, rfl, _, _, rfl, rfl, (by show (2147483587 : Int) ≠ 0; decide), _, _, rfl, rfl, Or.inr ⟨by decide, by decide⟩, ?_⟩⟩
            refine ⟨_, rfl, _, _, rfl, rfl, Or.inl ⟨by decide, by decide⟩, _, rfl, _, _, rfl, rfl, Or.inr ⟨by omega, by omega⟩, ?_⟩
            refine ⟨_, _, rfl, rfl, _, rfl, _, _, rfl, rfl, Or.inl ⟨by decide, by decide⟩, _, _, rfl, rfl, _, _, rfl, rfl, ?_⟩
            refine ⟨_, rfl, Or.inl ⟨_, rfl, _, _, rfl, rfl, (by show (2147483629 : Int) ≠ 0; decide), ?_⟩⟩
            have hz := fmod_bounds (x := (41 * a + 23).fmod 2147483587 * 48271 + 40014 * a * a + 59 * a + 17) (m := 2147483629) (by decide)
            refine ⟨_, rfl, _, rfl, _, _, rfl, rfl, _, _, rfl, rfl, Or.inl ⟨by omega, by omega⟩, Or.inl ⟨_, rfl, _, _, rfl, rfl, (by show (2147483549 : Int) ≠ 0; decide), ?_⟩⟩
            refine ⟨_, rfl, _, rfl, _, _, rfl, rfl, Or.inl ?_, Or.inl ⟨_, rfl, _, _, rfl, rfl, (by show (2147483579 : Int) ≠ 0; decide), _, _, rfl, rfl, ⟨by decide, by decide⟩, Or.inl ⟨_, rfl, _, rfl, _, _, rfl, rfl, (by omega), ?_⟩⟩⟩
            · have hy := fmod_bounds (x := ((41 * a + 23).fmod 2147483587 * 48271 + 40014 * a * a + 59 * a + 17).fmod 2147483629 * (((41 * a + 23).fmod 2147483587 * 48271 + 40014 * a * a + 59 * a + 17).fmod 2147483629 + 69621)) (m := 2147483549) (by decide)
              exact ⟨by omega, by omega⟩
            exact k _ _ (fmod_bounds m0).1 (fmod_bounds m0).2 ⟨a + 1, l, cs, ⟨k1, k2, h3, by omega, h5⟩, by omega⟩ kk
        · refine ⟨_, rfl, Or.inl ⟨_, rfl, _, _, rfl, rfl, (by show (2147483587 : Int) ≠ 0; decide), _, _, rfl, rfl, Or.inr ⟨by decide, by decide⟩, ?_⟩⟩
          refine ⟨_, rfl, _, _, rfl, rfl, Or.inl ⟨by decide, by decide⟩, _, rfl, _, _, rfl, rfl, Or.inr ⟨by omega, by omega⟩, ?_⟩
          refine ⟨_, _, rfl, rfl, _, rfl, _, _, rfl, rfl, Or.inl ⟨by decide, by decide⟩, _, _, rfl, rfl, _, _, rfl, rfl, ?_⟩
          refine ⟨_, rfl, Or.inl ⟨_, rfl, _, _, rfl, rfl, (by show (2147483629 : Int) ≠ 0; decide), ?_⟩⟩
          have hz := fmod_bounds (x := (41 * a + 23).fmod 2147483587 * 48271 + 40014 * a * a + 59 * a + 17) (m := 2147483629) (by decide)
          refine ⟨_, rfl, _, rfl, _, _, rfl, rfl, _, _, rfl, rfl, Or.inl ⟨by omega, by omega⟩, Or.inl ⟨_, rfl, _, _, rfl, rfl, (by show (2147483549 : Int) ≠ 0; decide), ?_⟩⟩
          refine ⟨_, rfl, _, rfl, _, _, rfl, rfl, Or.inl ?_, Or.inl ⟨_, rfl, _, _, rfl, rfl, (by show (2147483579 : Int) ≠ 0; decide), _, _, rfl, rfl, ⟨by decide, by decide⟩, Or.inl ⟨_, rfl, _, rfl, _, _, rfl, rfl, (by omega), ?_⟩⟩⟩
          · have hy := fmod_bounds (x := ((41 * a + 23).fmod 2147483587 * 48271 + 40014 * a * a + 59 * a + 17).fmod 2147483629 * (((41 * a + 23).fmod 2147483587 * 48271 + 40014 * a * a + 59 * a + 17).fmod 2147483629 + 69621)) (m := 2147483549) (by decide)
            exact ⟨by omega, by omega⟩
          exact k _ _ (fmod_bounds m0).1 (fmod_bounds m0).2 ⟨a + 1, l, cs, ⟨k1, k2, h3, by omega, h5⟩, by omega⟩ kk
/-- the draw, as its callers have it -/
structure TxtD (K : PySem.W.Frag) (mg : Str → Option Value) (fD : Addr) : Prop extends TxtA K mg where
  m_law_draw : mg "_law_draw" = some (.ref fD)
  k_law_draw : PySem.W.keepIn K (.ref fD) = true
abbrev s__law_pick : Stmt := top 19
abbrev N__law_pick : List Str := ["_law_pen_here", "_law_items"]
abbrev P__law_pick : List Str := ["_law_pen_here", "_law_items"]
theorem sc__law_pick : FnScope N__law_pick P__law_pick (defScope s__law_pick) := ⟨rfl, rfl, rfl, by decide +kernel, rfl, by decide +kernel, by decide +kernel⟩

theorem ok_pickL {f fD : Addr} {fd fdD : FuncData} (F : Fun K "_law_pick" "_law_pick" s__law_pick f fd) (T : TxtD K mg fD) (FD : Fun K "_law_draw" "_law_draw" s__law_draw fD fdD) (b_law_draw : Binds K fdD P__law_draw []) : FnOk P w K mg base CX0 2 f fd P__law_pick (spPickL K) := by
  have G_law_draw : FnOk P w K mg base CX0 1 fD fdD P__law_draw spDraw := ok_draw FD T.toTxtA
  refine F.ok sc__law_pick (fun vs H Q E h => ?_) (fun cdv A outer s H vs Q E hr h => ?_)
  · obtain ⟨p, c, a, xs, n, rfl, _⟩ := h
    rfl
  · obtain ⟨p, c, a, xs, n, rfl, hp, hn, hS, h0, h1, k⟩ := h
    refine ⟨_, (pss_one (ps_ret (pe_ix ix_list (pv 1) (pe_call G_law_draw (hr.mono (by decide)) (by rfl) T.m_law_draw T.k_law_draw b_law_draw .nil pass0 (pa_cons (pv 0) (pa_cons (pe_callB call_len (by rfl) T.len PySem.boot_len (pa_cons (pv 1) pa_nil)) pa_nil))) (fun _ _ => rfl)))), ?_⟩
    refine ⟨_, rfl, _, rfl, _, rfl, _, _, rfl, Or.inl ⟨_, hS, rfl⟩, p, c, _, n, rfl, hp, hn, by omega, by omega, fun d H' d0 d1 hp' kk => ?_⟩
    obtain ⟨kvs, hd⟩ := hp.dk
    have hj : d.toNat < xs.length := by omega
    exact ⟨a, xs, d, _, rfl, rfl, kp_seq kk hd hS, at_of (Int.toNat_of_nonneg d0).symm (List.getElem?_eq_getElem hj), k _ _ _ (List.getElem?_eq_getElem hj) hp' kk⟩
theorem ok_pickS {f fD : Addr} {fd fdD : FuncData} (F : Fun K "_law_pick" "_law_pick" s__law_pick f fd) (T : TxtD K mg fD) (FD : Fun K "_law_draw" "_law_draw" s__law_draw fD fdD) (b_law_draw : Binds K fdD P__law_draw []) : FnOk P w K mg base CX0 2 f fd P__law_pick spPickS := by
  have G_law_draw : FnOk P w K mg base CX0 1 fD fdD P__law_draw spDraw := ok_draw FD T.toTxtA
  refine F.ok sc__law_pick (fun vs H Q E h => ?_) (fun cdv A outer s H vs Q E hr h => ?_)
  · obtain ⟨p, c, z, n, rfl, _⟩ := h
    rfl
  · obtain ⟨p, c, z, n, rfl, hp, hn, h0, h1, k⟩ := h
    refine ⟨_, (pss_one (ps_ret (pe_ix ix_str (pv 1) (pe_call G_law_draw (hr.mono (by decide)) (by rfl) T.m_law_draw T.k_law_draw b_law_draw .nil pass0 (pa_cons (pv 0) (pa_cons (pe_callB call_len (by rfl) T.len PySem.boot_len (pa_cons (pv 1) pa_nil)) pa_nil))) (fun _ _ => rfl)))), ?_⟩
    have hz : z.length ≤ sizeLine := Nat.le_of_lt (small1000 h1)
    refine ⟨_, rfl, _, rfl, _, rfl, _, _, rfl, ⟨hz, rfl⟩, p, c, _, n, rfl, hp, hn, by omega, by omega, fun d H' d0 d1 hp' kk => ?_⟩
    have hj : d.toNat < (TL.tl z).length := by rw [← TL.len_tl]; omega
    exact ⟨z, d, _, rfl, rfl, hz, at_of' (Int.toNat_of_nonneg d0).symm (List.getElem?_eq_getElem hj), k _ _ _ (List.getElem?_eq_getElem hj) hp' kk⟩
end
end Vf
set_option Elab.async false
set_option linter.all false
set_option maxRecDepth 100000
set_option maxHeartbeats 4000000
/-! nested data -/
namespace Vf
open PySem L2 PyProof.Rows
def Dat : HO → Prop
  | .lst _ => True
  | .tup _ => True
  | .frz _ _ => True
  | _ => False
/-- lists and tuples stand as they stood -/
def Kl (H H' : Hp) : Prop := ∀ b o, H b = some o → Dat o → H' b = some o
theorem Kl.refl (H : Hp) : Kl H H := fun _ _ e _ => e
theorem Kl.trans {H H1 H2 : Hp} (a : Kl H H1) (b : Kl H1 H2) : Kl H H2 := fun c o e d => b c o (a c o e d) d
theorem Kl.same {H H' : Hp} (s : Same H H') : Kl H H' := fun b o e _ => s b o e
theorem Kl.kp {H H' : Hp} {p : Addr} {kvs : List (Key × V)} (k : Kp p H H') (hp : H p = some (.dK kvs)) : Kl H H' := fun b o e d => k b o e fun z => by
  rw [z, hp] at e
  cases e
  exact d
theorem Kl.del {H H' : Hp} (k : Kl H H') (a : Addr) : Kl (L2.del H a) (L2.del H' a) := fun b o e d => by
  by_cases hb : b = a
  · rw [hb, del_same] at e; cases e
  · rw [del_ne hb] at e ⊢
    exact k b o e d
theorem Kl.undel (H : Hp) (a : Addr) : Kl (L2.del H a) H := fun b o e d => by
  by_cases hb : b = a
  · rw [hb, del_same] at e; cases e
  · rw [del_ne hb] at e
    exact e
theorem del_upd (H : Hp) (a : Addr) (o : HO) : L2.del (L2.upd H a o) a = L2.del H a := by
  funext b
  by_cases hb : b = a
  · rw [hb, del_same, del_same]
  · rw [del_ne hb, del_ne hb, upd_ne hb]
theorem Kl.rd {H H' : Hp} {a : Addr} {u : HO} (k : Kl H H') (d : Dat u) (h : Rd H a u) : Rd H' a u := by
  rcases h with h | ⟨o, h⟩
  · exact .inl (k _ _ h d)
  · exact .inr ⟨o, k _ _ h trivial⟩
theorem Kl.seq {K : PySem.W.Frag} {H H' : Hp} {a : Addr} {xs : List V} (k : Kl H H') (h : SqL K H a xs) : SqL K H' a xs := by
  rcases h with h | h
  · exact .inl (k.rd trivial h)
  · exact .inr h
theorem Kl.seqT {K : PySem.W.Frag} {H H' : Hp} {a : Addr} {xs : List V} (k : Kl H H') (h : SqT K H a xs) : SqT K H' a xs := by
  rcases h with h | h
  · exact .inl (k.rd trivial h)
  · exact .inr h
end Vf
namespace L2
open PySem PyProof.Rows Vf
mutual
theorem Dp.kl {K : PySem.W.Frag} {H H' : Hp} (k : Kl H H') : ∀ (d : PyData) (v : V), Dp K H v d → Dp K H' v d
  | .none, _, h => by cases h; exact .non
  | .bool b, _, h => by cases h; exact .bl b
  | .int i, _, h => by cases h; exact .int i
  | .str x, _, h => by cases h; exact .str x
  | .list ds, _, h => by
    cases h with
    | lst a b => exact .lst (k.seq a) (DpAll.kl k ds _ b)
  | .tuple ds, _, h => by
    cases h with
    | tup a b => exact .tup (k.seqT a) (DpAll.kl k ds _ b)
  | .dict kvs, _, h => by cases h
theorem DpAll.kl {K : PySem.W.Frag} {H H' : Hp} (k : Kl H H') : ∀ (ds : List PyData) (vs : List V), DpAll K H vs ds → DpAll K H' vs ds
  | [], _, h => by cases h; exact .nil
  | d :: ds, _, h => by
    cases h with
    | cons a b => exact .cons (Dp.kl k d _ a) (DpAll.kl k ds _ b)
end
theorem Dp.mv {K : PySem.W.Frag} {H H' : Hp} {v : V} {d : PyData} (h : Dp K H v d) (k : Kl H H') : Dp K H' v d := Dp.kl k d v h
theorem DpAll.mv {K : PySem.W.Frag} {H H' : Hp} {vs : List V} {ds : List PyData} (h : DpAll K H vs ds) (k : Kl H H') : DpAll K H' vs ds := DpAll.kl k ds vs h
theorem DpAll.length {K : PySem.W.Frag} {H : Hp} : ∀ {vs : List V} {ds : List PyData}, DpAll K H vs ds → vs.length = ds.length
  | _, _, .nil => rfl
  | _, _, .cons _ t => congrArg Nat.succ (DpAll.length t)
theorem DpAll.get {K : PySem.W.Frag} {H : Hp} : ∀ {vs : List V} {ds : List PyData} {i : Nat} {d : PyData}, DpAll K H vs ds → ds[i]? = some d → ∃ v, vs[i]? = some v ∧ Dp K H v d
  | _, _, _, _, .nil, e => by simp at e
  | _, _, 0, _, .cons h t, e => by simp at e; subst e; exact ⟨_, rfl, h⟩
  | _, _, i + 1, d, .cons h t, e => by
    obtain ⟨v, h1, h2⟩ := DpAll.get (i := i) (d := d) t (by simpa using e)
    exact ⟨v, by simpa using h1, h2⟩
theorem DpAll.append {K : PySem.W.Frag} {H : Hp} : ∀ {vs ws : List V} {ds es : List PyData}, DpAll K H vs ds → DpAll K H ws es → DpAll K H (vs ++ ws) (ds ++ es)
  | _, _, _, _, .nil, h => h
  | _, _, _, _, .cons a t, h => .cons a (DpAll.append t h)
theorem DpAll.snoc {K : PySem.W.Frag} {H : Hp} {vs : List V} {v : V} {ds : List PyData} {d : PyData} (h : DpAll K H vs ds) (g : Dp K H v d) : DpAll K H (vs ++ [v]) (ds ++ [d]) := h.append (.cons g .nil)
theorem DpAll.take {K : PySem.W.Frag} {H : Hp} : ∀ {vs : List V} {ds : List PyData} (n : Nat), DpAll K H vs ds → DpAll K H (vs.take n) (ds.take n)
  | _, _, 0, _ => .nil
  | _, _, n + 1, .nil => .nil
  | _, _, n + 1, .cons a t => .cons a (DpAll.take n t)
theorem DpAll.drop {K : PySem.W.Frag} {H : Hp} : ∀ {vs : List V} {ds : List PyData} (n : Nat), DpAll K H vs ds → DpAll K H (vs.drop n) (ds.drop n)
  | _, _, 0, h => h
  | _, _, n + 1, .nil => .nil
  | _, _, n + 1, .cons a t => DpAll.drop n t
theorem Dp.listE {K : PySem.W.Frag} {H : Hp} {v : V} {ds : List PyData} (h : Dp K H v (.list ds)) : ∃ a xs, v = .ref a ∧ SqL K H a xs ∧ DpAll K H xs ds := by
  cases h with
  | lst a b => exact ⟨_, _, rfl, a, b⟩
theorem Dp.tupE {K : PySem.W.Frag} {H : Hp} {v : V} {ds : List PyData} (h : Dp K H v (.tuple ds)) : ∃ a xs, v = .ref a ∧ SqT K H a xs ∧ DpAll K H xs ds := by
  cases h with
  | tup a b => exact ⟨_, _, rfl, a, b⟩
theorem Dp.intE {K : PySem.W.Frag} {H : Hp} {v : V} {i : Int} (h : Dp K H v (.int i)) : v = .int i := by
  cases h; rfl
theorem Dp.strE {K : PySem.W.Frag} {H : Hp} {v : V} {i : Str} (h : Dp K H v (.str i)) : v = .str i := by
  cases h; rfl
theorem dpAll_ints (K : PySem.W.Frag) (H : Hp) : ∀ cs : List Int, DpAll K H (cs.map V.int) (cs.map PyData.int)
  | [] => .nil
  | c :: r => .cons (.int c) (dpAll_ints K H r)
theorem dpAll_intsE {K : PySem.W.Frag} {H : Hp} : ∀ {cs : List Int} {vs : List V}, DpAll K H vs (cs.map PyData.int) → vs = cs.map V.int
  | [], _, h => by cases h; rfl
  | c :: r, _, h => by
    cases h with
    | cons a b => rw [a.intE, dpAll_intsE b]; rfl
theorem dpAll_strs (K : PySem.W.Frag) (H : Hp) : ∀ cs : List Str, DpAll K H (cs.map V.str) (cs.map PyData.str)
  | [] => .nil
  | c :: r => .cons (.str c) (dpAll_strs K H r)
theorem dpAll_strsE {K : PySem.W.Frag} {H : Hp} : ∀ {cs : List Str} {vs : List V}, DpAll K H vs (cs.map PyData.str) → vs = cs.map V.str
  | [], _, h => by cases h; rfl
  | c :: r, _, h => by
    cases h with
    | cons a b => rw [a.strE, dpAll_strsE b]; rfl
end L2
namespace Vf
open PySem L2 PyProof.Rows
/-! a code's data -/
abbrev Row := List (Int × Int)
def tupD (gb : Int × Int) : PyData := .tuple [.int gb.1, .int gb.2]
def rowD (r : Row) : PyData := .list (r.map tupD)
def rowT (r : Row) : PyData := .tuple (r.map tupD)
def rowsD (rs : List Row) : PyData := .list (rs.map rowD)
def rowsT (rs : List Row) : PyData := .tuple (rs.map rowT)
def intsD (es : List Int) : PyData := .list (es.map PyData.int)
def intsT (es : List Int) : PyData := .tuple (es.map PyData.int)
def codeD (z : Str) (rs : List Row) (es : List Int) : PyData := .tuple [.str z, rowsD rs, intsD es]
/-- rows and ends of a code with so many values -/
structure Good (m : Nat) (rs : List Row) (es : List Int) : Prop where
  len : es.length = rs.length
  pos : 0 < rs.length
  row : ∀ r ∈ rs, r.length = m ∧ ∀ gb ∈ r, 0 ≤ gb.1 ∧ gb.1 < rs.length ∧ 0 ≤ gb.2 ∧ gb.2 < 100
  ends : ∀ e ∈ es, 0 ≤ e ∧ e < 100
theorem del_some {H : Hp} {a b : Addr} {o : HO} (e : L2.del H a b = some o) : b ≠ a ∧ H b = some o := by
  by_cases hb : b = a
  · rw [hb, del_same] at e; cases e
  · rw [del_ne hb] at e
    exact ⟨hb, e⟩
/-- a row of a code of c states -/
def RowOk (m : Nat) (c : Int) (r : Row) : Prop := r.length = m ∧ ∀ gb ∈ r, 0 ≤ gb.1 ∧ gb.1 < c ∧ 0 ≤ gb.2 ∧ gb.2 < 100
/-- a comprehension without a test -/
theorem lcYes {σ : L2.St} {H : Hp} {A B : Hp → Prop} (h : A H) : tYes σ H (fun b H' => if b = true then A H' else B H') := by
  show (if true = true then A H else B H)
  rw [if_pos rfl]
  exact h
end Vf
namespace L2
theorem Same.put {H H' : Hp} {r : PySem.Addr} {o : HO} (s : Same H H') (h : H r = none) : Same H (upd H' r o) := fun b u e => by
  rw [upd_ne (ne_of_none e h)]
  exact s b u e
end L2
set_option Elab.async false
set_option linter.all false
set_option maxRecDepth 100000
set_option maxHeartbeats 4000000
/-! for i, c in enumerate(text); walks of texts -/
namespace Vf
open PySem L2 PyProof.Rows
/-- the text x, each sign in a new pair with its place -/
def Itse (x : Str) : It :=
  ⟨fun i _ => i < x.cps.size, fun i H v H' => ∃ T c, v = .ref T ∧ H T = none ∧ H' = L2.upd H T (.tup [.int (i : Nat), .str (sg c)]) ∧ x.cps[i]? = some c, fun i _ => x.cps.size ≤ i⟩
theorem turn_enumS {P : Program} {w : World} {K : PySem.W.Frag} {elts : List Expr} {kk : Nat} {tpos : Pos} (x : Str) (t : Tok) (e it : Addr) :
    Turn P w K (.Tuple elts kk tpos) (Itse x) [e, it] e (fun i h => (∃ old, IsEnum h e it ((i : Nat) : Int) old) ∧ h.IsStrIter it (strIterType x) x t i ∧ e ≠ it ∧ i ≤ x.cps.size) where
  mem := by simp
  obj := fun i h st b hb => by
    obtain ⟨⟨old, he⟩, ⟨o, ho, hc, hd⟩, _⟩ := st
    have e' : b = e ∨ b = it := by simpa using hb
    rcases e' with z | z
    · rw [z]; exact ⟨_, he, fun v q => nomatch q⟩
    · rw [z]; exact ⟨o, ho, fun v q => by rw [hd] at q; cases q⟩
  keep := fun i h h' st k => let ⟨⟨old, he⟩, ⟨o, ho, r⟩, hne, hle⟩ := st; ⟨⟨old, k e (by simp) _ he⟩, ⟨o, k it (by simp) o ho, r⟩, hne, hle⟩
  item := by
    intro X hP hw hK hc i pins s σ H E I hf st hg
    subst hP hw hK
    obtain ⟨⟨old, he⟩, hit, hne, hle⟩ := st
    have hg : i < x.cps.size := hg
    have hel : e < s.heap.objs.size := Heap.lt_size he
    have hil : it < s.heap.objs.size := by obtain ⟨_, q, _⟩ := hit; exact Heap.lt_size q
    have D : Draws X.prog X.w X.A.in1 it [it] x.cps.size (fun i v => ∃ c u, x.cps[i]? = some c ∧ v = .str ⟨#[c]⟩ u) (fun i h => h.IsStrIter it (strIterType x) x t i) := Draws.text (A := X.A.in1) (show X.A.in1.handled = none from I.ok.hd hc) it x t
    refine wpAny_pyNext_enum_itemC D he hit hg hne (by simpa using hne) fun y h' tk hy ho hit' hT hsz hk => ?_
    obtain ⟨c, u, hcx, rfl⟩ := hy
    refine ⟨_, rfl, wpAny_letOwnedTupleGo_enum (s := { s with heap := h', toks := tk + 1 }) ho fun h'' he' sb => ?_⟩
    have hT2 : h''.get? s.heap.objs.size = some { cls := .type "tuple", data := .seq #[.int i tk, .str ⟨#[c]⟩ u] } := (sb.2 _ (Nat.ne_of_gt hel)).trans hT
    have new : ObjOk X.prog X.w (L2.upd H s.heap.objs.size (.tup [.int (i : Nat), .str (sg c)])) h'' s.heap.objs.size (.tup [.int (i : Nat), .str (sg c)]) :=
      ⟨by show 2 ≤ sizeLine; decide, [.int i tk, .str ⟨#[c]⟩ u], .cons ⟨_, rfl⟩ (.cons ⟨_, rfl⟩ .nil), ⟨_, hT2, rfl, _, rfl⟩⟩
    have I1 : Inv X pins σ (L2.upd H s.heap.objs.size (.tup [.int (i : Nat), .str (sg c)])) { s with heap := h'', toks := tk + 1 } :=
      I.turnedNew (ch := [e, it]) (fun b ob hb q => (sb.2 b (fun z => hb (by simp [z]))).trans (hk b ob (fun z => hb (by simp [z])) (fun z => hb (by simp [z])) q)) hf (Nat.le_refl _) new
    obtain ⟨oi, hoi, r⟩ := hit'
    refine ⟨.ref s.heap.objs.size, _, I1, rfl, ⟨_, c, rfl, I.hok.fresh (Nat.le_refl _), rfl, hcx⟩, ⟨⟨.str ⟨#[c]⟩ u, ?_⟩, ⟨oi, (sb.2 it (Ne.symm hne)).trans hoi, r⟩, hne, hg⟩, fun b hb => ?_⟩
    · have e1 : ((i + 1 : Nat) : Int) = (i : Int) + 1 := by omega
      rw [e1]; exact he'
    · have hb' : b < s.heap.objs.size := by
        have e' : b = e ∨ b = it := by simpa using hb
        rcases e' with z | z
        · rw [z]; exact hel
        · rw [z]; exact hil
      rw [upd_ne (Nat.ne_of_lt hb')]
      exact (hf b hb).1
  done := by
    intro X hP hw hK hc i pins s σ H E I hf st hg
    subst hP hw hK
    obtain ⟨⟨old, he⟩, hit, hne, hle⟩ := st
    have hg : x.cps.size ≤ i := hg
    have ei : i = x.cps.size := Nat.le_antisymm hle hg
    subst ei
    obtain ⟨f0, f1, f2, f3, f4, f5⟩ := hf it (by simp)
    have D : Draws X.prog X.w X.A.in1 it [it] x.cps.size (fun i v => ∃ c u, x.cps[i]? = some c ∧ v = .str ⟨#[c]⟩ u) (fun i h => h.IsStrIter it (strIterType x) x t i) := Draws.text (A := X.A.in1) (show X.A.in1.handled = none from I.ok.hd hc) it x t
    exact wpAny_pyNext_enum_endD D he hit fun h' eb => ⟨rfl, I.turned (t' := s.toks) (fun b o hb q => eb b o hb q) f0 f1 f3 f4 f5⟩
  self := fun A i s Q E st h => let ⟨⟨_, he⟩, _⟩ := st; wpAny_pyIter_enum he h
def iEnumS (ta : TA) : TI := fun σ H R => ta σ H fun vs H1 => ∃ z, vs = [.str z] ∧ R (Itse z) H1
theorem pi_enumS {X : Cx} {e : Expr} {ta : TA} {p pos tpos : Pos} {elts : List Expr} {kk : Nat} (hg : Gl X "enumerate") (hm : X.mg "enumerate" = none) (ha : PA X [e] ta) (hs : starEach [e] X.env = [(false, eval e X.env)] := by rfl) :
    PI X (.Tuple elts kk tpos) (.Call (.Name "enumerate" p) [e] [] pos) (iEnumS ta) := by
  refine ⟨fun pins s σ H R I h => ?_⟩
  refine Call_ (ld_blt I hg hm boot_enumerate (PyProof.Rows.callWith_type1 (thn (ha.run pos pins s σ H _ I h) fun us s1 ⟨vs, H1, I1, r1, q1⟩ => ?_) hs rfl))
  obtain ⟨x, ex, q⟩ := q1
  subst ex
  cases r1 with
  | cons r rr =>
    cases rr
    obtain ⟨t, rfl⟩ := r
    refine call_enumerate_str fun h' he hit hsz hk => wpAny_pyIter_enum he ?_
    have I2 : Inv X pins σ H1 { s1 with heap := h' } := I1.kept (t' := s1.toks) hk
    refine ⟨s1.heap.objs.size + 1, [s1.heap.objs.size + 1, s1.heap.objs.size], _, _, H1, rfl, I2, turn_enumS x t (s1.heap.objs.size + 1) s1.heap.objs.size, ⟨⟨.none, he⟩, hit, Nat.succ_ne_self _, Nat.zero_le _⟩, fun b hb => ?_, q⟩
    have e' : b = s1.heap.objs.size + 1 ∨ b = s1.heap.objs.size := by simpa using hb
    have hle : s1.heap.objs.size ≤ b := by
      rcases e' with z | z
      · rw [z]; exact Nat.le_add_right _ _
      · rw [z]; exact Nat.le_refl _
    exact I1.fpOk hle (I1.hok.fresh hle)
theorem walk_strS {z : Str} : Walk (Its z) z.length (fun _ => True) (fun i H v H' => H' = H ∧ ∃ c, (TL.tl z)[i]? = some c ∧ v = .str (sg c)) :=
  ⟨fun _ _ hi _ => hi, fun _ _ => Nat.le_refl _, fun i _ _ _ _ _ y => ⟨y.1, by obtain ⟨c, h, e⟩ := y.2; exact ⟨c, by simpa using h, e⟩⟩⟩
theorem walk_enumS {z : Str} : Walk (Itse z) z.length (fun _ => True) (fun i H v H' => ∃ T c, v = .ref T ∧ H T = none ∧ H' = L2.upd H T (.tup [.int (i : Nat), .str (sg c)]) ∧ (TL.tl z)[i]? = some c) :=
  ⟨fun _ _ hi _ => hi, fun _ _ => Nat.le_refl _, fun i _ _ _ _ _ y => by obtain ⟨T, c, h1, h2, h3, h4⟩ := y; exact ⟨T, c, h1, h2, h3, by simpa using h4⟩⟩
/-! rules with the written part named, for a comprehension's block -/
section
variable {X : Cx} {K : PySem.W.Frag} {tg : Expr}
def rTupOf (K : PySem.W.Frag) : List V → Hp → VK → Prop := fun xs H Q => ∃ p ys, xs = [.ref p] ∧ ((SqL K H p ys ∧ ∀ l, H l = none → Q (.ref l) (L2.upd H l (.tup ys))) ∨ (SqT K H p ys ∧ Q (.ref p) H))
def rLstOf (K : PySem.W.Frag) : List V → Hp → VK → Prop := fun xs H Q => ∃ p ys, xs = [.ref p] ∧ (SqL K H p ys ∨ SqT K H p ys) ∧ ∀ l, H l = none → Q (.ref l) (L2.upd H l (.lst ys))
def rLenOf (K : PySem.W.Frag) : List V → Hp → VK → Prop := fun xs H Q => ∃ x n, xs = [x] ∧ LenV K x H n ∧ Q (.int (n : Nat)) H
theorem call_tupleK (hK : X.K = K) : CallR X (.type "tuple") (rTupOf K) := by subst hK; exact call_tuple_of
theorem call_listK (hK : X.K = K) : CallR X (.type "list") (rLstOf K) := by subst hK; exact call_list_of
theorem call_lenK (hK : X.K = K) : CallR X (.builtin "len") (rLenOf K) := by subst hK; exact call_len
theorem pi_listK (hK : X.K = K) {l : Expr} {tl : TE} (hl : PE X l tl) : PI X tg l (iList K tl) := by subst hK; exact pi_list hl
theorem pi_tupK (hK : X.K = K) {l : Expr} {tl : TE} (hl : PE X l tl) : PI X tg l (iTup K tl) := by subst hK; exact pi_tup hl
theorem ix_listK (hK : X.K = K) : IxR X (rIxL K) := by subst hK; exact ix_list
theorem ix_tupK (hK : X.K = K) : IxR X (rIxT K) := by subst hK; exact ix_tup
end
theorem pi_or {X : Cx} {tg e : Expr} {w1 w2 : TI} (h1 : PI X tg e w1) (h2 : PI X tg e w2) : PI X tg e (fun σ H R => w1 σ H R ∨ w2 σ H R) :=
  ⟨fun pins s σ H R I h => h.elim (fun h => h1.run pins s σ H R I h) fun h => h2.run pins s σ H R I h⟩
end Vf
set_option Elab.async false
set_option linter.all false
set_option maxRecDepth 100000
set_option maxHeartbeats 4000000
/-! for i, x in enumerate(tuple) -/
namespace Vf
open PySem L2 PyProof.Rows
theorem meets_enumerate_newT (l : Addr) (o : Obj) (items : Array Value) (ht : o.cls = .type "tuple") (hd : ∃ n, o.data = .seq items n) :
    Meets (Builtin.«enumerate.__new__» ⟨[.type "enumerate", .ref l], []⟩) (fun _ R s => s.heap.get? l = some o ∧
      R (.ok (.ret (.ref (s.heap.push { cls := .type "tuple_iterator", data := .fields #[.ref l, .int 0 0] }).objs.size)))
        { s with heap := (s.heap.push { cls := .type "tuple_iterator", data := .fields #[.ref l, .int 0 0] }).push { cls := .type "enumerate", data := .fields #[.none, .bool false, .ref s.heap.objs.size, rawInt 0, .none, .none] } }) :=
  .of_wp fun prog w A R s h => by
    obtain ⟨hl, h⟩ := h
    have hT : s.heap.IsTuple l items := ⟨o, hl, ht, hd⟩
    obtain ⟨hp, g, d, tk, os⟩ := s
    have hsub := sub_enumerate
    wp_walk
    refine wpAny_stack_any fun st => wpAny_pure ?_
    split
    · rename_i c _ _ _ _ _
      cases (c == Value.type "enumerate")
      · wp_walk using wpAny_pyIter_tuple hT
        exact ⟨_, rfl, h⟩
      · wp_walk using wpAny_pyIter_tuple hT
        exact ⟨_, rfl, h⟩
    · wp_walk using wpAny_pyIter_tuple hT
      exact ⟨_, rfl, h⟩
section
variable {prog : Program} {w : World} {A : Around} {E : Value → Shared → Prop} {s : Shared}
theorem call_enumerate_tuple {l : Addr} {items : Array Value} {Q : Value → Shared → Prop} (hL : s.heap.IsTuple l items)
    (h : ∀ h', IsEnum h' (s.heap.objs.size + 1) s.heap.objs.size 0 .none → h'.IsTupleIter s.heap.objs.size l 0 → h'.objs.size = s.heap.objs.size + 2 →
      (∀ b o, s.heap.get? b = some o → h'.get? b = some o) → Q (.ref (s.heap.objs.size + 1)) { s with heap := h' }) :
    wpAny (model prog w) A (call (.type "enumerate") [.ref l]) Q E s := by
  obtain ⟨o, hl, hc, hd⟩ := hL
  refine callType_new F.called_enumerate (by decide) (F.typeCall_enumerate_1 _) (F.newCall_enumerate_1 _) (fun obj => F.args_object_init_2 obj _) F.entry_enumerate_new
    (meets_enumerate_newT l o items hc hd) ⟨hl, ?_⟩
  have hz : (s.heap.push { cls := .type "tuple_iterator", data := .fields #[.ref l, .int 0 0] }).objs.size = s.heap.objs.size + 1 := Heap.size_push ..
  show _ ∧ _
  rw [hz]
  have he : IsEnum ((s.heap.push { cls := .type "tuple_iterator", data := .fields #[.ref l, .int 0 0] }).push
      { cls := .type "enumerate", data := .fields #[.none, .bool false, .ref s.heap.objs.size, rawInt 0, .none, .none] }) (s.heap.objs.size + 1) s.heap.objs.size 0 .none := by
    have := Heap.get?_push_size (s.heap.push { cls := .type "tuple_iterator", data := .fields #[.ref l, .int 0 0] })
      (o := { cls := .type "enumerate", data := .fields #[.none, .bool false, .ref s.heap.objs.size, rawInt 0, .none, .none] }) rfl
    rw [hz] at this; exact this
  refine ⟨⟨_, he, rfl⟩, h _ he ⟨_, Heap.get?_push_of_some _ (Heap.get?_push_size _ rfl), rfl, rfl⟩ (by rw [Heap.size_push, hz]) fun b o x => Heap.get?_push_of_some _ (Heap.get?_push_of_some _ x)⟩
end
/-- the tuple at a, each item in a new pair -/
def Itet (K : PySem.W.Frag) (a : Addr) : It :=
  ⟨fun i H => ∃ (xs : List V) (x : V), SqT K H a xs ∧ xs[i]? = some x, fun i H v H' => ∃ T x, v = .ref T ∧ H T = none ∧ H' = L2.upd H T (.tup [.int (i : Nat), x]) ∧ ∀ xs, SqT K H a xs → xs[i]? = some x, fun i H => ∃ xs : List V, SqT K H a xs ∧ xs.length ≤ i⟩
theorem drawsAtEnd {prog : Program} {w : World} {A : Around} (hh : A.handled = none) (it t : Addr) (items : Array Value) (i : Nat) (hi : items[i]? = none) :
    Draws prog w A it [it, t] i (fun _ _ => False) (fun j h => j = i ∧ h.IsTupleIter it t j ∧ h.IsTuple t items) where
  live := fun _ _ st => let ⟨o, ho, _⟩ := st.2.1; ⟨o, ho⟩
  frame := fun _ _ _ st hk => ⟨st.1, st.2.1.at fun o e => hk it (by simp) o e, st.2.2.at fun o e => hk t (by simp) o e⟩
  item := fun j s Q E hj st hQ => absurd st.1 (Nat.ne_of_lt hj)
  done := fun s Q E st hE => wpAny_nextOf_tuple_end hh st.2.1 st.2.2 hi hE
theorem turn_enumT {P : Program} {w : World} {K : PySem.W.Frag} {elts : List Expr} {kk : Nat} {tpos : Pos} (a e it : Addr) :
    Turn P w K (.Tuple elts kk tpos) (Itet K a) [e, it] e (fun i h => (∃ old, IsEnum h e it ((i : Nat) : Int) old) ∧ h.IsTupleIter it a i ∧ e ≠ it) where
  mem := by simp
  obj := fun i h st b hb => by
    obtain ⟨⟨old, he⟩, ⟨o, ho, hc, hd⟩, _⟩ := st
    have e' : b = e ∨ b = it := by simpa using hb
    rcases e' with z | z
    · rw [z]; exact ⟨_, he, fun v q => nomatch q⟩
    · rw [z]; exact ⟨o, ho, fun v q => by rw [hd] at q; cases q⟩
  keep := fun i h h' st k => let ⟨⟨old, he⟩, hi, hne⟩ := st; ⟨⟨old, k e (by simp) _ he⟩, hi.at fun o q => k it (by simp) o q, hne⟩
  item := by
    intro X hP hw hK hc i pins s σ H E I hf st hg
    subst hP hw hK
    obtain ⟨⟨old, he⟩, hit, hne⟩ := st
    obtain ⟨xs, x, hq, hx⟩ := hg
    obtain ⟨its, rv, p, hz⟩ := I.tuple hq
    obtain ⟨u0, hu, ru⟩ := rv.get hx
    have hel : e < s.heap.objs.size := Heap.lt_size he
    have hil : it < s.heap.objs.size := by obtain ⟨_, q, _⟩ := hit; exact Heap.lt_size q
    have hae : a ≠ e := fun z => by
      obtain ⟨o, ho, hc, _⟩ := p
      rw [z] at ho
      have : o = _ := Option.some.inj (ho.symm.trans he)
      rw [this] at hc
      exact absurd (Value.type.inj hc) (by decide)
    have hai : a ≠ it := fun z => by
      obtain ⟨o, ho, hc, _⟩ := p
      obtain ⟨o2, ho2, hc2, _⟩ := hit
      rw [z] at ho
      rw [Option.some.inj (ho.symm.trans ho2), hc2] at hc
      exact absurd (Value.type.inj hc) (by decide)
    have D := Draws.tuple (prog := X.prog) (w := X.w) (A := X.A.in1) (show X.A.in1.handled = none from I.ok.hd hc) it a hai its.toArray
    have hlt : i < its.toArray.size := by
      obtain ⟨h, _⟩ := List.getElem?_eq_some_iff.mp hu
      simpa using h
    refine wpAny_pyNext_enum_itemC D he ⟨hit, p⟩ hlt hne (by simp [hne, Ne.symm hae]) fun y h' tk hy ho hit' hT hsz hk => ?_
    obtain rfl : u0 = y := by
      have : its.toArray[i]? = some u0 := by simpa using hu
      exact Option.some.inj (this.symm.trans hy)
    refine ⟨_, rfl, wpAny_letOwnedTupleGo_enum (s := { s with heap := h', toks := tk + 1 }) ho fun h'' he' sb => ?_⟩
    have hT2 : h''.get? s.heap.objs.size = some { cls := .type "tuple", data := .seq #[.int i tk, u0] } := (sb.2 _ (Nat.ne_of_gt hel)).trans hT
    have new : ObjOk X.prog X.w (L2.upd H s.heap.objs.size (.tup [.int (i : Nat), x])) h'' s.heap.objs.size (.tup [.int (i : Nat), x]) :=
      ⟨by show 2 ≤ sizeLine; decide, [.int i tk, u0], .cons ⟨_, rfl⟩ (.cons ru .nil), ⟨_, hT2, rfl, _, rfl⟩⟩
    have I1 : Inv X pins σ (L2.upd H s.heap.objs.size (.tup [.int (i : Nat), x])) { s with heap := h'', toks := tk + 1 } :=
      I.turnedNew (ch := [e, it]) (fun b ob hb q => (sb.2 b (fun z => hb (by simp [z]))).trans (hk b ob (fun z => hb (by simp [z])) (fun z => hb (by simp [z])) q)) hf (Nat.le_refl _) new
    refine ⟨.ref s.heap.objs.size, _, I1, rfl, ⟨_, x, rfl, I.hok.fresh (Nat.le_refl _), rfl, fun ys hy => ?_⟩, ⟨⟨u0, ?_⟩, hit'.1.at fun o q => (sb.2 it (Ne.symm hne)).trans q, hne⟩, fun b hb => ?_⟩
    · rw [I.tuple_inj hy hq]; exact hx
    · have e1 : ((i + 1 : Nat) : Int) = (i : Int) + 1 := by omega
      rw [e1]; exact he'
    · have hb' : b < s.heap.objs.size := by
        have e' : b = e ∨ b = it := by simpa using hb
        rcases e' with z | z
        · rw [z]; exact hel
        · rw [z]; exact hil
      rw [upd_ne (Nat.ne_of_lt hb')]
      exact (hf b hb).1
  done := by
    intro X hP hw hK hc i pins s σ H E I hf st hg
    subst hP hw hK
    obtain ⟨⟨old, he⟩, hit, hne⟩ := st
    obtain ⟨xs, hq, hx⟩ := hg
    obtain ⟨its, rv, p, hz⟩ := I.tuple hq
    obtain ⟨f0, f1, f2, f3, f4, f5⟩ := hf it (by simp)
    have hl := rv.length
    have hai : a ≠ it := fun z => by
      obtain ⟨o, ho, hc, _⟩ := p
      obtain ⟨o2, ho2, hc2, _⟩ := hit
      rw [z] at ho
      rw [Option.some.inj (ho.symm.trans ho2), hc2] at hc
      exact absurd (Value.type.inj hc) (by decide)
    have D := drawsAtEnd (prog := X.prog) (w := X.w) (A := X.A.in1) (show X.A.in1.handled = none from I.ok.hd hc) it a its.toArray i (by simp; omega)
    exact wpAny_pyNext_enum_endD D he ⟨rfl, hit, p⟩ fun h' eb => ⟨rfl, I.turned (t' := s.toks) (fun b o hb q => eb b o hb q) f0 f1 f3 f4 f5⟩
  self := fun A i s Q E st h => let ⟨⟨_, he⟩, _⟩ := st; wpAny_pyIter_enum he h
def iEnumT (K : PySem.W.Frag) (ta : TA) : TI := fun σ H R => ta σ H fun vs H1 => ∃ a xs, vs = [.ref a] ∧ SqT K H1 a xs ∧ R (Itet K a) H1
theorem pi_enumT {X : Cx} {e : Expr} {ta : TA} {p pos tpos : Pos} {elts : List Expr} {kk : Nat} (hg : Gl X "enumerate") (hm : X.mg "enumerate" = none) (ha : PA X [e] ta) (hs : starEach [e] X.env = [(false, eval e X.env)] := by rfl) :
    PI X (.Tuple elts kk tpos) (.Call (.Name "enumerate" p) [e] [] pos) (iEnumT X.K ta) := by
  refine ⟨fun pins s σ H R I h => ?_⟩
  refine Call_ (ld_blt I hg hm boot_enumerate (PyProof.Rows.callWith_type1 (thn (ha.run pos pins s σ H _ I h) fun us s1 ⟨vs, H1, I1, r1, q1⟩ => ?_) hs rfl))
  obtain ⟨a, xs, ex, hq, q⟩ := q1
  subst ex
  cases r1 with
  | cons r rr =>
    cases rr
    cases r
    obtain ⟨its, rv, p', hz⟩ := I1.tuple hq
    refine call_enumerate_tuple p' fun h' he hit hsz hk => wpAny_pyIter_enum he ?_
    have I2 : Inv X pins σ H1 { s1 with heap := h' } := I1.kept (t' := s1.toks) hk
    refine ⟨s1.heap.objs.size + 1, [s1.heap.objs.size + 1, s1.heap.objs.size], _, _, H1, rfl, I2, turn_enumT a (s1.heap.objs.size + 1) s1.heap.objs.size, ⟨⟨.none, he⟩, hit, Nat.succ_ne_self _⟩, fun b hb => ?_, q⟩
    have e' : b = s1.heap.objs.size + 1 ∨ b = s1.heap.objs.size := by simpa using hb
    have hle : s1.heap.objs.size ≤ b := by
      rcases e' with z | z
      · rw [z]; exact Nat.le_add_right _ _
      · rw [z]; exact Nat.le_refl _
    exact I1.fpOk hle (I1.hok.fresh hle)
theorem walk_enumT {K : PySem.W.Frag} {a : Addr} {xs : List V} : Walk (Itet K a) xs.length (fun H => SqT K H a xs) (fun i H v H' => ∃ T x, v = .ref T ∧ H T = none ∧ H' = L2.upd H T (.tup [.int (i : Nat), x]) ∧ xs[i]? = some x) :=
  ⟨fun i H hi h => ⟨xs, _, h, List.getElem?_eq_getElem hi⟩, fun H h => ⟨xs, h, Nat.le_refl _⟩, fun i H v H' hi h y => by obtain ⟨T, x, h1, h2, h3, h4⟩ := y; exact ⟨T, x, h1, h2, h3, h4 xs h⟩⟩
/-- a list or a tuple -/
def Sq (K : PySem.W.Frag) (H : Hp) (a : Addr) (xs : List V) : Prop := SqL K H a xs ∨ SqT K H a xs
def GSq (K : PySem.W.Frag) (H1 : Hp) (a : Addr) (xs : List V) (H : Hp) : Prop := (SqL K H1 a xs → SqL K H a xs) ∧ (SqT K H1 a xs → SqT K H a xs)
theorem GSq.kl {K : PySem.W.Frag} {H1 H : Hp} {a : Addr} {xs : List V} (k : Kl H1 H) : GSq K H1 a xs H := ⟨fun h => k.seq h, fun h => k.seqT h⟩
theorem GSq.same {K : PySem.W.Frag} {H1 H : Hp} {a : Addr} {xs : List V} (s : Same H1 H) : GSq K H1 a xs H := .kl (.same s)
theorem Sq.kl {K : PySem.W.Frag} {H1 H : Hp} {a : Addr} {xs : List V} (h : Sq K H1 a xs) (k : Kl H1 H) : Sq K H a xs := h.imp (fun h => k.seq h) (fun h => k.seqT h)
theorem Sq.same {K : PySem.W.Frag} {H1 H : Hp} {a : Addr} {xs : List V} (h : Sq K H1 a xs) (s : Same H1 H) : Sq K H a xs := h.kl (.same s)
theorem Sq.len {K : PySem.W.Frag} {H : Hp} {a : Addr} {xs : List V} (h : Sq K H a xs) : LenV K (.ref a) H xs.length := h.elim (fun h => Or.inl ⟨_, h, rfl⟩) (fun h => Or.inr ⟨_, h, rfl⟩)
def iSeq (K : PySem.W.Frag) (tl : TE) : TI := fun σ H R => tl σ H fun x H1 => ∃ a xs, x = .ref a ∧ Sq K H1 a xs ∧ ∀ J, Walk J xs.length (GSq K H1 a xs) (YAt xs) → R J H1
theorem pi_seq {X : Cx} {K : PySem.W.Frag} {tg l : Expr} {tl : TE} (hK : X.K = K) (hl : PE X l tl) : PI X tg l (iSeq K tl) := by
  subst hK
  refine ⟨fun pins s σ H R I h => ?_⟩
  refine thn (hl.run pins s σ H _ I h) fun v s1 ⟨x, H1, I1, r1, q1⟩ => ?_
  obtain ⟨a, xs, e, hq, q⟩ := q1
  subst e
  cases r1
  rcases hq with hq | hq
  · obtain ⟨its, rv, p, hz⟩ := I1.list hq
    refine wpAny_pyIter_list p.isList ?_
    refine ⟨s1.heap.objs.size, [s1.heap.objs.size], _, _, H1, rfl, I1.kept (t' := s1.toks) fun b o e => Heap.get?_push_of_some _ e, turn_list a _, ⟨_, Heap.get?_push_size _ rfl, rfl, rfl⟩, fun b hb => ?_, q _ (walk_list.mono (fun H g => g.1 hq) fun _ _ _ _ _ _ y => y)⟩
    have e : b = s1.heap.objs.size := by simpa using hb
    subst e
    exact I1.fpOk (Nat.le_refl _) (I1.hok.fresh (Nat.le_refl _))
  · obtain ⟨its, rv, p, hz⟩ := I1.tuple hq
    refine wpAny_pyIter_tuple (show s1.heap.IsTuple a its.toArray from p) ?_
    refine ⟨s1.heap.objs.size, [s1.heap.objs.size], _, _, H1, rfl, I1.kept (t' := s1.toks) fun b o e => Heap.get?_push_of_some _ e, turn_tuple a _, ⟨_, Heap.get?_push_size _ rfl, rfl, rfl⟩, fun b hb => ?_, q _ (walk_tup.mono (fun H g => g.2 hq) fun _ _ _ _ _ _ y => y)⟩
    have e : b = s1.heap.objs.size := by simpa using hb
    subst e
    exact I1.fpOk (Nat.le_refl _) (I1.hok.fresh (Nat.le_refl _))
def iEnumX (K : PySem.W.Frag) (ta : TA) : TI := fun σ H R => ta σ H fun vs H1 => ∃ a xs, vs = [.ref a] ∧ Sq K H1 a xs ∧ ∀ J, Walk J xs.length (GSq K H1 a xs) (fun i H v H' => ∃ T x, v = .ref T ∧ H T = none ∧ H' = L2.upd H T (.tup [.int (i : Nat), x]) ∧ xs[i]? = some x) → R J H1
theorem pi_enumX {X : Cx} {e : Expr} {ta : TA} {p pos tpos : Pos} {elts : List Expr} {kk : Nat} (hg : Gl X "enumerate") (hm : X.mg "enumerate" = none) (ha : PA X [e] ta) (hs : starEach [e] X.env = [(false, eval e X.env)] := by rfl) :
    PI X (.Tuple elts kk tpos) (.Call (.Name "enumerate" p) [e] [] pos) (iEnumX X.K ta) := by
  refine ⟨fun pins s σ H R I h => ?_⟩
  refine Call_ (ld_blt I hg hm boot_enumerate (PyProof.Rows.callWith_type1 (thn (ha.run pos pins s σ H _ I h) fun us s1 ⟨vs, H1, I1, r1, q1⟩ => ?_) hs rfl))
  obtain ⟨a, xs, ex, hq, q⟩ := q1
  subst ex
  cases r1 with
  | cons r rr =>
    cases rr
    cases r
    rcases hq with hq | hq
    · obtain ⟨its, rv, p', hz⟩ := I1.list hq
      refine call_enumerate_list p'.isList fun h' he hit hsz hk => wpAny_pyIter_enum he ?_
      have I2 : Inv X pins σ H1 { s1 with heap := h' } := I1.kept (t' := s1.toks) hk
      refine ⟨s1.heap.objs.size + 1, [s1.heap.objs.size + 1, s1.heap.objs.size], _, _, H1, rfl, I2, turn_enum a (s1.heap.objs.size + 1) s1.heap.objs.size, ⟨⟨.none, he⟩, hit, Nat.succ_ne_self _⟩, fun b hb => ?_, q _ (walk_enum.mono (fun H g => g.1 hq) fun i H v H' _ _ y => ?_)⟩
      · have e' : b = s1.heap.objs.size + 1 ∨ b = s1.heap.objs.size := by simpa using hb
        have hle : s1.heap.objs.size ≤ b := by
          rcases e' with z | z
          · rw [z]; exact Nat.le_add_right _ _
          · rw [z]; exact Nat.le_refl _
        exact I1.fpOk hle (I1.hok.fresh hle)
      · obtain ⟨T, x, y', h1, h2, h3, h4, h5⟩ := y
        obtain rfl : V.int i = x := Option.some.inj h4
        exact ⟨T, y', h1, h2, h3, h5⟩
    · obtain ⟨its, rv, p', hz⟩ := I1.tuple hq
      refine call_enumerate_tuple p' fun h' he hit hsz hk => wpAny_pyIter_enum he ?_
      have I2 : Inv X pins σ H1 { s1 with heap := h' } := I1.kept (t' := s1.toks) hk
      refine ⟨s1.heap.objs.size + 1, [s1.heap.objs.size + 1, s1.heap.objs.size], _, _, H1, rfl, I2, turn_enumT a (s1.heap.objs.size + 1) s1.heap.objs.size, ⟨⟨.none, he⟩, hit, Nat.succ_ne_self _⟩, fun b hb => ?_, q _ (walk_enumT.mono (fun H g => g.2 hq) fun i H v H' _ _ y => y)⟩
      have e' : b = s1.heap.objs.size + 1 ∨ b = s1.heap.objs.size := by simpa using hb
      have hle : s1.heap.objs.size ≤ b := by
        rcases e' with z | z
        · rw [z]; exact Nat.le_add_right _ _
        · rw [z]; exact Nat.le_refl _
      exact I1.fpOk hle (I1.hok.fresh hle)
/-- rows of states, as lists or as tuples -/
def Rws (K : PySem.W.Frag) (H : Hp) (R : V) (rs : List Row) : Prop := Dp K H R (rowsD rs) ∨ Dp K H R (rowsT rs)
def Ens (K : PySem.W.Frag) (H : Hp) (E : V) (es : List Int) : Prop := Dp K H E (intsD es) ∨ Dp K H E (intsT es)
theorem Rws.mv {K : PySem.W.Frag} {H H' : Hp} {R : V} {rs : List Row} (h : Rws K H R rs) (k : Kl H H') : Rws K H' R rs := h.imp (fun h => h.mv k) (fun h => h.mv k)
theorem Ens.mv {K : PySem.W.Frag} {H H' : Hp} {R : V} {rs : List Int} (h : Ens K H R rs) (k : Kl H H') : Ens K H' R rs := h.imp (fun h => h.mv k) (fun h => h.mv k)
theorem Ens.at {K : PySem.W.Frag} {H : Hp} {E : V} {es : List Int} (h : Ens K H E es) : ∃ e, E = .ref e ∧ Sq K H e (es.map V.int) := by
  rcases h with h | h
  · obtain ⟨e, ys, rfl, h1, h2⟩ := h.listE
    obtain rfl := dpAll_intsE h2
    exact ⟨e, rfl, Or.inl h1⟩
  · obtain ⟨e, ys, rfl, h1, h2⟩ := h.tupE
    obtain rfl := dpAll_intsE h2
    exact ⟨e, rfl, Or.inr h1⟩
theorem Rws.at {K : PySem.W.Frag} {H : Hp} {R : V} {rs : List Row} (h : Rws K H R rs) : ∃ r xs, R = .ref r ∧ Sq K H r xs ∧ xs.length = rs.length ∧
    ∀ (i : Nat) (hi : i < rs.length) (x : V), xs[i]? = some x → ∃ w ts, x = .ref w ∧ Sq K H w ts ∧ DpAll K H ts (rs[i].map tupD) := by
  rcases h with h | h
  · obtain ⟨r, xs, rfl, h1, h2⟩ := h.listE
    refine ⟨r, xs, rfl, Or.inl h1, by rw [h2.length, List.length_map], fun i hi x hx => ?_⟩
    obtain ⟨v, hv, hrow⟩ := h2.get (i := i) (d := rowD rs[i]) (by rw [List.getElem?_map, List.getElem?_eq_getElem hi]; rfl)
    obtain rfl : x = v := Option.some.inj (hx.symm.trans hv)
    obtain ⟨w, ts, rfl, hw1, hw2⟩ := hrow.listE
    exact ⟨w, ts, rfl, Or.inl hw1, hw2⟩
  · obtain ⟨r, xs, rfl, h1, h2⟩ := h.tupE
    refine ⟨r, xs, rfl, Or.inr h1, by rw [h2.length, List.length_map], fun i hi x hx => ?_⟩
    obtain ⟨v, hv, hrow⟩ := h2.get (i := i) (d := rowT rs[i]) (by rw [List.getElem?_map, List.getElem?_eq_getElem hi]; rfl)
    obtain rfl : x = v := Option.some.inj (hx.symm.trans hv)
    obtain ⟨w, ts, rfl, hw1, hw2⟩ := hrow.tupE
    exact ⟨w, ts, rfl, Or.inr hw1, hw2⟩
theorem tup_at {K : PySem.W.Frag} {H : Hp} {ts : List V} {r : Row} (h : DpAll K H ts (r.map tupD)) {j : Nat} {x : V} (hx : ts[j]? = some x) : ∃ (t : Addr) (hj : j < r.length), x = .ref t ∧ SqT K H t [.int (r[j]).1, .int (r[j]).2] := by
  obtain ⟨hj, _⟩ := List.getElem?_eq_some_iff.mp hx
  have hj' : j < r.length := by have := h.length; rw [List.length_map] at this; omega
  obtain ⟨v, hv, hb⟩ := h.get (i := j) (d := tupD r[j]) (by rw [List.getElem?_map, List.getElem?_eq_getElem hj']; rfl)
  obtain rfl : x = v := Option.some.inj (hx.symm.trans hv)
  obtain ⟨t, us, rfl, ht1, ht2⟩ := hb.tupE
  cases ht2 with
  | cons hA hB =>
    obtain rfl := hA.intE
    cases hB with
    | cons hB hC =>
      obtain rfl := hB.intE
      cases hC
      exact ⟨t, hj', rfl, ht1⟩
end Vf
set_option Elab.async false
set_option linter.all false
set_option maxRecDepth 100000
set_option maxHeartbeats 4000000
/-! own errors: made by an own __init__ over a plain own base; methods that may raise -/
namespace Vf
open PySem L2 PyProof.Rows PySem.Calls
def tMethV (C : Addr) (m : Str) (sp : Sp) (E : L2.St → XK) (ta : TE) (t : TA) : TE := fun σ H Q => ta σ H fun x H1 => ∃ a dx fs, x = .ref a ∧ H1 a = some (.ins C dx fs) ∧ fs.lookup m = none ∧ t σ H1 fun vs H2 => sp (x :: vs) H2 Q (E σ)
section
variable {X : Cx} {CX : CXT} {k : Nat} {f C : Addr} {fd : FuncData} {ps : List Str} {sp : Sp} {E : L2.St → XK} {x m : Str} {p pos apos : Pos} {e o : Expr} {es : List Expr} {ta : TE} {t : TA}
theorem pe_methV {pl : Sem Bool} (he : PE X o ta) (c : Cls X.K C) (hm : Meth X.K C m f) (F : FnOk X.prog X.w X.K X.mg X.base CX k f fd ps sp) (hr : Room k X.A) (hb : L2.Binds X.K fd ps []) (hx : ∀ σ, PassesAt CX X σ (E σ)) (ha : PA X (e :: es) t)
    (hst : starEach (e :: es) X.env = (false, eval e X.env) :: starEach es X.env := by rfl) (hpl : (backTo pos (starEach es X.env)).any (·.1) = false := by rfl)
    (ht : eval (.Call (.Attribute o m apos) (e :: es) [] pos) X.env = (do
      let ov ← eval o X.env
      standAt apos.atName
      let (f, first) ← holding [ov] (getMethod ov m pl)
      callWith pos f first (backTo pos (starEach (e :: es) X.env)) (backToKw pos (keywordEach [] X.env))) := by rfl) :
    PE X (.Call (.Attribute o m apos) (e :: es) [] pos) (tMethV C m sp E ta t) := by
  refine ⟨fun pins s σ H Q I h => ?_⟩
  refine PySem.W.methodCall_KW (pl := pl) (thn (he.run pins s σ H _ I h) fun u s1 ⟨x, H1, I1, rx, a, dx, fs, ex, ea, l, q⟩ => ?_) ht
  subst ex
  obtain rfl : u = Value.ref a := rx
  refine getmeth_ok I1 ea c hm l ?_
  refine PySem.W.callWith_K (first := [.ref a]) (h₀ := X.base) I.ok.mod.kin hm.kp (thn (ha.run pos pins s1 σ H1 _ I1 q) fun us s2 ⟨vs, H2, I2, r, q2⟩ => ⟨I2.kIn, ?_⟩) hst hpl
  exact run_fnS (us := .ref a :: us) (vs := .ref a :: vs) F hr hb (hx σ) I2 (.cons rfl r) q2
end
/-- what the top says of the plain base at B, asked for __init__ -/
structure BaseT (K : PySem.W.Frag) (mg : Str → Option Value) (x : Str) (B : Addr) : Prop where
  g : mg x = some (.ref B)
  s : PySem.W.specialIn K (.ref B) "__getattribute__" = some (some (.builtin "type.__getattribute__"))
  r : PySem.W.readsIn K B (.type "type") = true
  v : PySem.W.findCls K (.ref B) (.type "type") "__init__" = some (.val (.builtin "ValueError.__init__"))
section
variable {X : Cx} {e : Expr} {es : List Expr} {ta : TA} {x : Str} {p1 p2 pos : Pos} {B : Addr}
theorem pe_clsinit {pl : Sem Bool} (T : BaseT X.K X.mg x B) (hg : Gl X x) (ha : PA X (e :: es) ta) (hdb : (x == ("__debug__" : Str)) = false := by decide)
    (hc : eval (.Call (.Attribute (.Name x p1) "__init__" p2) (e :: es) [] pos) X.env = (do
      let ov ← eval (.Name x p1) X.env
      standAt p2.atName
      let (f, first) ← holding [ov] (getMethod ov "__init__" pl)
      callWith pos f first (backTo pos (starEach (e :: es) X.env)) (backToKw pos (keywordEach [] X.env))) := by rfl)
    (he : starEach (e :: es) X.env = (false, eval e X.env) :: starEach es X.env := by rfl) (hpl : (backTo pos (starEach es X.env)).any (·.1) = false := by rfl) :
    PE X (.Call (.Attribute (.Name x p1) "__init__" p2) (e :: es) [] pos) (tVeI X.K ta) := by
  refine ⟨fun pins s σ H Q I h => ?_⟩
  refine PySem.W.methodCall_KW (ld_glob I hg T.g ?_ hdb) hc
  refine PySem.W.method_cls I.kIn T.s (PySem.W.cls_value (mc := .type "type") I.kIn T.r T.v (by decide +kernel) ?_)
  show wpAny _ _ (callWith pos (Value.builtin "ValueError.__init__") [] (backTo pos (starEach (e :: es) X.env)) []) _ _ _
  refine PyProof.Rows.callWith_method1 (thn (ha.run pos pins _ σ H _ (I.tok _) h) fun us s1 ⟨vs, H1, I1, r1, a, C, ws, ev, hl, T, ea, q⟩ => ?_) he hpl
  subst ev
  cases r1 with
  | @cons _ u0 _ ur ra rw' =>
    obtain rfl : u0 = Value.ref a := ra
    have hlen : ur.length ≤ sizeLine := by
      rw [← Paired.length rw', sizeLine_eq]
      omega
    exact oinit_ok T I1 ea hlen fun s' J => ⟨.non, H1, J, rfl, q⟩
end
/-- what the top says of an own error at C over the base, with the __init__ at fI that keeps one field -/
structure ErrT (K : PySem.W.Frag) (mg : Str → Option Value) (x f : Str) (C fI : Addr) : Prop where
  oex : OexC K C
  g : mg x = some (.ref C)
  iC : PySem.W.findIn K (.ref C) "__init__" = some (some (.ref fI))
  tI : PySem.W.typeIn K (.ref fI) = some (.type "function")
  nf : PySem.W.findIn K (.ref C) f = some none
  xf : XfC K C
/-- the promise of such an __init__ -/
def spErr (C : Addr) (f : Str) : Sp := fun vs H Q _ => ∃ (a : Addr) (v : V), vs = [.ref a, v] ∧ H a = some (exo a C none) ∧ ∀ d, H d = none → d ≠ a → Q .non (L2.upd (L2.upd H d (exd d [(f, v)])) a (exo a C (some d)))
/-- what raise X(v) leaves -/
def Raised (H H' : Hp) (d : Addr) (f : Str) (v : V) : Prop := H d = none ∧ H' d = some (.xd [(f, v)]) ∧ Same H H'
theorem raised_of {H : Hp} {a d C : Addr} {f : Str} {v : V} (ha : H a = none) (hd : H d = none) (hda : d ≠ a) :
    Raised H (L2.upd (L2.del (L2.upd (L2.upd (L2.upd H a (exo a C none)) d (exd d [(f, v)])) a (exo a C (some d))) a) d (.xd [(f, v)])) d f v := by
  refine ⟨hd, upd_same, fun b o e => ?_⟩
  have h1 : b ≠ a := ne_of_none e ha
  have h2 : b ≠ d := ne_of_none e hd
  rw [upd_ne h2, del_ne h1, upd_ne h1, upd_ne h2, upd_ne h1]
  exact e
theorem idx_lt' {z : List Nat} {c : Nat} (h : c ∈ z) : z.idxOf c < z.length := List.idxOf_lt_length_iff.mpr h
theorem at_sg {z : Str} {c i : Nat} : StrLaws.At z (sg c) z.length i ↔ (TL.tl z)[i]? = some c := by
  rw [TL.at_iff (by rw [sg_tl]; simp) i, sg_tl]
  rw [← List.head?_drop]
  cases h : (TL.tl z).drop i with
  | nil => exact ⟨fun h => absurd h (by show ¬ (([] : List Nat) == [c]) = true; exact Bool.false_ne_true), fun h => absurd h (by simp)⟩
  | cons a r =>
    constructor
    · intro h
      have h2 : [a] = [c] := eq_of_beq h
      exact congrArg some (List.cons.inj h2).1
    · intro h
      have h2 : a = c := Option.some.inj h
      subst h2
      exact beq_self_eq_true [a]
theorem occ_sg {z : Str} {c : Nat} (h : c ∈ TL.tl z) : ∃ r, Builtin.Str.occurrences z (sg c) 0 z.length 1 = (TL.tl z).idxOf c :: r := by
  have hlt := idx_lt' h
  have hget : (TL.tl z)[(TL.tl z).idxOf c]? = some c := by
    rw [List.getElem?_eq_getElem hlt]
    simp
  rcases StrLaws.occ_head z (sg c) 1 (Nat.le_refl 1) with ⟨h0, hn⟩ | ⟨i, r, h0, hi, hn⟩
  · exact absurd (at_sg.mpr hget) (hn _)
  · rw [at_sg] at hi
    have e : i = (TL.tl z).idxOf c := by
      rcases Nat.lt_trichotomy i ((TL.tl z).idxOf c) with q | q | q
      · exfalso
        have := List.not_of_lt_findIdx (p := (· == c)) (xs := TL.tl z) q
        obtain ⟨hl, he⟩ := List.getElem?_eq_some_iff.mp hi
        simp [he] at this
      · exact q
      · exact absurd (at_sg.mpr hget) (hn _ q)
    exact ⟨r, by rw [h0, e]⟩
theorem find_sg {z : Str} {c : Nat} (h : c ∈ TL.tl z) : Txt.find z (sg c) = ((TL.tl z).idxOf c : Int) := by
  obtain ⟨r, e⟩ := occ_sg h
  unfold Txt.find
  rw [e]
end Vf
set_option Elab.async false
set_option linter.all false
set_option maxRecDepth 100000
set_option maxHeartbeats 4000000
/-! functions as values: made in one def, handed to another, called there -/
namespace Vf
open PySem L2 PyProof.Rows NdefX LamX
/-- the cell at c, told to the last bit -/
def CellX (c : Addr) (o : Obj) : HO := .ext fun h => h.get? c = some o
abbrev Cs := List (Addr × Obj)
def hid (cs : Cs) (H : Hp) : Hp := fun b => if (cs.lookup b).isSome then none else H b
def shw (cs : Cs) (H : Hp) : Hp := fun b => match cs.lookup b with | some o => some (CellX b o) | none => H b
def HeldC (cs : Cs) (H : Hp) : Prop := ∀ c o, cs.lookup c = some o → H c = some (CellX c o)
section
variable {cs : Cs} {H H' : Hp} {b c : Addr} {o : Obj} {u : HO}
theorem hid_in (h : cs.lookup c = some o) : hid cs H c = none := by unfold hid; rw [h]; rfl
theorem hid_out (h : cs.lookup c = none) : hid cs H c = H c := by unfold hid; rw [h]; rfl
theorem shw_in (h : cs.lookup c = some o) : shw cs H c = some (CellX c o) := by unfold shw; rw [h]
theorem shw_out (h : cs.lookup c = none) : shw cs H c = H c := by unfold shw; rw [h]
theorem hid_some (e : hid cs H b = some u) : cs.lookup b = none ∧ H b = some u := by
  cases q : cs.lookup b with
  | some x => rw [hid_in q] at e; cases e
  | none => rw [hid_out q] at e; exact ⟨rfl, e⟩
theorem HeldC.out (hc : HeldC cs H) (e : H b = some u) (n : ∀ x, u ≠ CellX b x) : cs.lookup b = none := by
  cases q : cs.lookup b with
  | some x => rw [hc b x q] at e; exact absurd (Option.some.inj e).symm (n x)
  | none => rfl
theorem HeldC.out0 (hc : HeldC cs H) (e : H b = none) : cs.lookup b = none := by
  cases q : cs.lookup b with
  | some x => rw [hc b x q] at e; cases e
  | none => rfl
theorem held_shw : HeldC cs (shw cs H) := fun _ _ e => shw_in e
end
section
variable {P : Program} {w : World} {cs : Cs} {H H' : Hp} {h h' B : Heap} {fs : List Addr}
theorem hok_hid (ok : HOk P w H h) (hc : HeldC cs H) : HOk P w (hid cs H) h := fun b u e => by
  obtain ⟨q, e1⟩ := hid_some e
  refine (ok b u e1).stay (fun _ _ _ z => z) (fun x z => ?_) fun x xs z => ?_
  · rw [hid_out (hc.out z fun y hy => by cases hy)]; exact z
  · rw [hid_out (hc.out z fun y hy => by cases hy)]; exact z
theorem hok_shw (ok : HOk P w H h) (hn : ∀ c o, cs.lookup c = some o → H c = none ∧ h.get? c = some o) : HOk P w (shw cs H) h := fun b u e => by
  have out : ∀ x v, H x = some v → shw cs H x = some v := fun x v z => by
    cases q : cs.lookup x with
    | some y => rw [(hn x y q).1] at z; cases z
    | none => rw [shw_out q]; exact z
  cases q : cs.lookup b with
  | some y =>
    rw [shw_in q] at e
    cases e
    have hb := (hn b y q).2
    exact ⟨hb, ⟨_, hb⟩, fun h1 h2 a st => st _ a⟩
  | none =>
    rw [shw_out q] at e
    exact (ok b u e).stay (fun _ _ _ z => z) (fun x z => out _ _ z) fun x xs z => out _ _ z
theorem cell_at (ok : HOk P w H h) (hc : HeldC cs H) {c : Addr} {o : Obj} (e : cs.lookup c = some o) : h.get? c = some o := (ok c _ (hc c o e)).1
/-- behind a call made with the cells hidden -/
theorem un_shw (ok : HOk P w H h) (hc : HeldC cs H) (hf : ∀ c o, cs.lookup c = some o → c ∉ fs) (u : Un fs [] (hid cs H) H' h h') (ok' : HOk P w H' h') :
    Un fs [] H (shw cs H') h h' ∧ HOk P w (shw cs H') h' ∧ ∀ c o, cs.lookup c = some o → H' c = none := by
  have cell : ∀ c o, cs.lookup c = some o → H' c = none ∧ h'.get? c = some o := fun c o e =>
    ⟨u.free c o (cell_at ok hc e) (hid_in e) (by simp), u.keep c o (cell_at ok hc e) (hid_in e) (hf c o e) (by simp)⟩
  refine ⟨⟨fun b o e n hb hx => ?_, fun b o e n hb hx => ?_, fun b o e n hx => ?_, u.there, fun b xs e => ?_, fun b o v e => ?_, fun b ps e => ?_⟩, hok_shw ok' cell, fun c o e => (cell c o e).1⟩
  · exact u.keep b o e (by rw [hid_out (hc.out0 n)]; exact n) hb hx
  · exact u.slot b o e (by rw [hid_out (hc.out0 n)]; exact n) hb hx
  · rw [shw_out (hc.out0 n)]
    exact u.free b o e (by rw [hid_out (hc.out0 n)]; exact n) hx
  · have q := hc.out e fun y hy => by cases hy
    rw [shw_out q]; exact u.tups b xs (by rw [hid_out q]; exact e)
  · have q := hc.out e fun y hy => by cases hy
    rw [shw_out q]; exact u.frzs b o v (by rw [hid_out q]; exact e)
  · have q := hc.out e fun y hy => by cases hy
    rw [shw_out q]; exact u.tbls b ps (by rw [hid_out q]; exact e)
theorem ub_shw (ok : HOk P w H h) (hc : HeldC cs H) (hf : ∀ c o, cs.lookup c = some o → c ∉ fs) (u : UB fs (hid cs H) H' h B h') (ok' : HOk P w H' B) :
    UB fs H (shw cs H') h B h' ∧ HOk P w (shw cs H') B ∧ ∀ c o, cs.lookup c = some o → H' c = none ∧ B.get? c = some o := by
  have cell : ∀ c o, cs.lookup c = some o → H' c = none ∧ B.get? c = some o := fun c o e =>
    ⟨u.free c o (cell_at ok hc e) (hid_in e), u.keep c o (cell_at ok hc e) (hid_in e) (hf c o e)⟩
  refine ⟨⟨fun b o e n hb => ?_, u.slot, fun b o e n => ?_, u.there, fun b xs e => ?_, fun b o v e => ?_, fun b ps e => ?_⟩, hok_shw ok' cell, cell⟩
  · exact u.keep b o e (by rw [hid_out (hc.out0 n)]; exact n) hb
  · rw [shw_out (hc.out0 n)]
    exact u.free b o e (by rw [hid_out (hc.out0 n)]; exact n)
  · have q := hc.out e fun y hy => by cases hy
    rw [shw_out q]; exact u.tups b xs (by rw [hid_out q]; exact e)
  · have q := hc.out e fun y hy => by cases hy
    rw [shw_out q]; exact u.frzs b o v (by rw [hid_out q]; exact e)
  · have q := hc.out e fun y hy => by cases hy
    rw [shw_out q]; exact u.tbls b ps (by rw [hid_out q]; exact e)
/-- behind a call made with the cells shown -/
theorem un_hid (hn : ∀ c o, cs.lookup c = some o → H c = none ∧ h.get? c = some o ∧ c ∉ fs) (u : Un fs [] (shw cs H) H' h h') (ok' : HOk P w H' h') (hc : HeldC cs H') :
    Un fs [] H (hid cs H') h h' ∧ HOk P w (hid cs H') h' := by
  have out : ∀ b v, H b = some v → cs.lookup b = none := fun b v e => by
    cases q : cs.lookup b with
    | some y => rw [(hn b y q).1] at e; cases e
    | none => rfl
  refine ⟨⟨fun b o e n hb hx => ?_, fun b o e n hb hx => ?_, fun b o e n hx => ?_, u.there, fun b xs e => ?_, fun b o v e => ?_, fun b ps e => ?_⟩, hok_hid ok' hc⟩
  · cases q : cs.lookup b with
    | some y =>
      have e1 := (hn b y q).2.1
      rw [e] at e1; cases e1
      exact cell_at ok' hc q
    | none => exact u.keep b o e (by rw [shw_out q]; exact n) hb hx
  · cases q : cs.lookup b with
    | some y => exact absurd hb (hn b y q).2.2
    | none => exact u.slot b o e (by rw [shw_out q]; exact n) hb hx
  · cases q : cs.lookup b with
    | some y => exact hid_in q
    | none =>
      rw [hid_out q]
      exact u.free b o e (by rw [shw_out q]; exact n) hx
  · have q := out _ _ e
    rw [hid_out q]; exact u.tups b xs (by rw [shw_out q]; exact e)
  · have q := out _ _ e
    rw [hid_out q]; exact u.frzs b o v (by rw [shw_out q]; exact e)
  · have q := out _ _ e
    rw [hid_out q]; exact u.tbls b ps (by rw [shw_out q]; exact e)
theorem ub_hid (hn : ∀ c o, cs.lookup c = some o → H c = none ∧ h.get? c = some o ∧ c ∉ fs) (u : UB fs (shw cs H) H' h B h') (ok' : HOk P w H' B) (hc : HeldC cs H') :
    UB fs H (hid cs H') h B h' ∧ HOk P w (hid cs H') B := by
  have out : ∀ b v, H b = some v → cs.lookup b = none := fun b v e => by
    cases q : cs.lookup b with
    | some y => rw [(hn b y q).1] at e; cases e
    | none => rfl
  refine ⟨⟨fun b o e n hb => ?_, u.slot, fun b o e n => ?_, u.there, fun b xs e => ?_, fun b o v e => ?_, fun b ps e => ?_⟩, hok_hid ok' hc⟩
  · cases q : cs.lookup b with
    | some y =>
      have e1 := (hn b y q).2.1
      rw [e] at e1; cases e1
      exact cell_at ok' hc q
    | none => exact u.keep b o e (by rw [shw_out q]; exact n) hb
  · cases q : cs.lookup b with
    | some y => exact hid_in q
    | none =>
      rw [hid_out q]
      exact u.free b o e (by rw [shw_out q]; exact n)
  · have q := out _ _ e
    rw [hid_out q]; exact u.tups b xs (by rw [shw_out q]; exact e)
  · have q := out _ _ e
    rw [hid_out q]; exact u.frzs b o v (by rw [shw_out q]; exact e)
  · have q := out _ _ e
    rw [hid_out q]; exact u.tbls b ps (by rw [shw_out q]; exact e)
end
/-! what is raised -/
structure CxOk (P : Program) (w : World) (CX : CXT) : Prop where
  shw : ∀ (outer : List Env) (cs : Cs) (H : Hp) (s : Shared) (E : XK) (u : Value) (s' : Shared), HOk P w H s.heap → HeldC cs H → (∀ c o, cs.lookup c = some o → c ∉ frs outer) →
    CX outer (hid cs H) s (fun cl d H2 => (∀ c o, cs.lookup c = some o → H2 c = none) → E cl d (Vf.shw cs H2)) u s' → CX outer H s E u s'
  hid : ∀ (outer : List Env) (cs : Cs) (H : Hp) (s : Shared) (E : XK) (u : Value) (s' : Shared), (∀ c o, cs.lookup c = some o → H c = none ∧ s.heap.get? c = some o ∧ c ∉ frs outer) →
    CX outer (Vf.shw cs H) s (fun cl d H2 => HeldC cs H2 ∧ E cl d (Vf.hid cs H2)) u s' → CX outer H s E u s'
theorem cxok0 {P : Program} {w : World} : CxOk P w CX0 := ⟨fun _ _ _ _ _ _ _ _ _ _ z => z.elim, fun _ _ _ _ _ _ _ _ z => z.elim⟩
theorem cxok {P : Program} {w : World} : CxOk P w (L2.CX P w) := by
  refine ⟨fun outer cs H s E u s' ok hc hf z => ?_, fun outer cs H s E u s' hn z => ?_⟩
  · obtain ⟨a, B, H', cls, d, e, fl, ok', ub, na, os, ag, hE⟩ := z
    obtain ⟨u1, k1, hB⟩ := ub_shw ok hc hf ub ok'
    refine ⟨a, B, _, cls, d, e, fl, k1, u1, ?_, os, ag, hE fun c o e => (hB c o e).1⟩
    cases q : cs.lookup a with
    | some y =>
      have z2 := fl.2.1
      rw [(hB a y q).2] at z2; cases z2
    | none => rw [shw_out q]; exact na
  · obtain ⟨a, B, H', cls, d, e, fl, ok', ub, na, os, ag, hc, hE⟩ := z
    obtain ⟨u1, k1⟩ := ub_hid hn ub ok' hc
    refine ⟨a, B, _, cls, d, e, fl, k1, u1, ?_, os, ag, hE⟩
    cases q : cs.lookup a with
    | some y => exact hid_in q
    | none => rw [hid_out q]; exact na
/-! a function by its address: whenever S holds of the heap, a call of it keeps the promise -/
structure FV (P : Program) (w : World) (K : PySem.W.Frag) (mg : Str → Option Value) (base : Heap) (CX : CXT) (k : Nat) (f : Addr) (S : Hp → Prop) (sp : Sp) : Prop where
  fn : ∀ H h, K.In h → HOk P w H h → S H → PySem.W.FnAt f h
  run : ∀ (A : Around) (outer : List Env) (s : Shared) (H : Hp) (us : List Value) (vs : List V) (Q : VK) (E : XK), Room k A → Env0 P w K mg base A outer s H → S H → Vals vs us → sp vs H Q E →
    codeAny (model P w) A (.call (.ref f) ⟨us, []⟩) (CR CX outer P w H s Q E) s
section
variable {P : Program} {w : World} {K : PySem.W.Frag} {mg : Str → Option Value} {base : Heap} {CX : CXT} {k j : Nat} {f : Addr} {S S' : Hp → Prop} {sp sp' : Sp}
theorem FV.mono (F : FV P w K mg base CX j f S sp) (h : j ≤ k) : FV P w K mg base CX k f S sp := ⟨F.fn, fun A outer s H us vs Q E hr => F.run A outer s H us vs Q E (hr.mono h)⟩
theorem FV.imp (F : FV P w K mg base CX k f S sp) (hS : ∀ H, S' H → S H) (h : ∀ vs H Q E, S' H → sp' vs H Q E → sp vs H Q E) : FV P w K mg base CX k f S' sp' :=
  ⟨fun H h ki ok q => F.fn H h ki ok (hS H q), fun A outer s H us vs Q E hr e q r z => F.run A outer s H us vs Q E hr e (hS H q) r (h vs H Q E q z)⟩
/-- a def of the module's top as a value -/
theorem fv_of_fun {x qual : Str} {stt : Stmt} {fd : FuncData} {ps : List Str} (Fu : Fun K x qual stt f fd) (F : FnOk P w K mg base CX k f fd ps sp) (hb : Binds K fd ps []) : FV P w K mg base CX k f (fun _ => True) sp :=
  ⟨fun H h ki ok q => by
    obtain ⟨oc, od, kV, doc, pm, an, cdv, ct, osl, rfl, lk, hcd⟩ := Fu.ex
    exact ⟨_, _, _, _, ki _ _ lk⟩, fun A outer s H us vs Q E hr e q r z => by
    have l : us.length = ps.length := by rw [← r.length]; exact F.len _ _ _ _ z
    have b := hb s us (e.mod.kin.keeps fun b o eb => (e.bs b o eb).1) (by rw [List.append_nil]; exact l)
    rw [List.append_nil] at b
    exact F.run A outer s H _ us vs Q E hr e b r z⟩
end
/-- the captured cells: cs tells them -/
structure Cap (cl : List (Str × Addr)) (fr : List Str) (ws : List (Option V)) (cs : Cs) : Prop where
  len : ws.length = fr.length
  cell : ∀ c o, cs.lookup c = some o → ∃ v, o.data = .cell v
  all : ∀ y c, cl.lookup y = some c → ∃ o, cs.lookup c = some o
  inj : ∀ x y c, cl.lookup x = some c → cl.lookup y = some c → x = y
  has : ∀ (i : Nat) (y : Str), fr[i]? = some y → ∃ c, cl.lookup y = some c ∧ ∀ v, ws[i]? = some (some v) → ∃ u o, RelV v u ∧ cs.lookup c = some o ∧ o.data = .cell (some u)
/-- the function and its cells stand -/
structure HeldF (f : Addr) (F : NF) (cs : Cs) (H : Hp) : Prop where
  fn : H f = some (FnO f F)
  code : H F.c = some (CodeO F.c F.qual)
  cells : HeldC cs H
def spHid (cs : Cs) (sp : Sp) : Sp := fun vs H Q E => sp vs (hid cs H) (fun v H2 => (∀ c o, cs.lookup c = some o → H2 c = none) → Q v (shw cs H2)) (fun cl d H2 => (∀ c o, cs.lookup c = some o → H2 c = none) → E cl d (shw cs H2))
section
variable {P : Program} {w : World} {K : PySem.W.Frag} {mg : Str → Option Value} {base : Heap} {CX : CXT} {k : Nat} {f : Addr} {F : NF} {ps fr : List Str} {ws : List (Option V)} {cs : Cs} {sp : List (Option V) → Sp}
theorem fv_of_nok (hX : CxOk P w CX) (o : NOk P w K mg base CX k f F ps fr sp) (c : Cap F.cl fr ws cs) : FV P w K mg base CX k f (HeldF f F cs) (spHid cs (sp ws)) := by
  refine ⟨fun H h ki ok q => ?_, fun A outer s H us vs Q E hr e q r z => ?_⟩
  · obtain ⟨od, sl, doc, pm, ctv, ho⟩ := fnO_at ok q.fn
    exact ⟨_, od, _, sl, ho⟩
  · have nfs : ∀ c o, cs.lookup c = some o → c ∉ frs outer := fun c o e1 hm => by
      have := e.frf c hm
      rw [q.cells c o e1] at this; cases this
    have okh := hok_hid e.hok q.cells
    have e2 : Env0 P w K mg base A outer s (hid cs H) := ⟨e.frames, e.mod, fun b o eb => ⟨(e.bs b o eb).1, by
        cases q2 : cs.lookup b with
        | some y => exact hid_in q2
        | none => rw [hid_out q2]; exact (e.bs b o eb).2⟩, e.bsz, e.funs, fun b hb => by
        cases q2 : cs.lookup b with
        | some y => exact hid_in q2
        | none => rw [hid_out q2]; exact e.frf b hb, okh, e.bare⟩
    have of : cs.lookup f = none := by
      cases q2 : cs.lookup f with
      | none => rfl
      | some y =>
        obtain ⟨od, sl, doc, pm, ctv, ho⟩ := fnO_at e.hok q.fn
        have h1 := cell_at e.hok q.cells q2
        obtain ⟨v, hv⟩ := c.cell f y q2
        rw [ho] at h1; cases h1; cases hv
    have oc : cs.lookup F.c = none := by
      cases q2 : cs.lookup F.c with
      | none => rfl
      | some y =>
        obtain ⟨⟨o1, v1, t1, h1, h2, h3⟩, _, _⟩ := e.hok _ _ q.code
        have h4 := cell_at e.hok q.cells q2
        obtain ⟨v, hv⟩ := c.cell _ y q2
        rw [h1] at h4; cases h4
        rw [h2] at hv; cases hv
    have C : CellsAt F.cl fr ws s.heap (hid cs H) := ⟨c.len, fun y a ea => by
        obtain ⟨o, ho⟩ := c.all y a ea
        obtain ⟨v, hv⟩ := c.cell a o ho
        exact ⟨hid_in ho, v, o, cell_at e.hok q.cells ho, hv⟩, c.inj, fun i y ey => by
        obtain ⟨a, ha, hv⟩ := c.has i y ey
        exact ⟨a, ha, fun v ev => by
          obtain ⟨u, o, h1, h2, h3⟩ := hv v ev
          exact ⟨u, h1, o, cell_at e.hok q.cells h2, h3⟩⟩⟩
    refine codeAny_mono (o.run A outer s (hid cs H) us vs ws _ _ hr e2 (by rw [hid_out of]; exact q.fn) (by rw [hid_out oc]; exact q.code) C r z) fun rr s' hq => ?_
    cases rr with
    | error er => exact hX.shw outer cs H s E er s' e.hok q.cells nfs hq
    | ok fl =>
      cases fl with
      | next => exact hq
      | brk => exact hq
      | cont => exact hq
      | ret u =>
        obtain ⟨v, H', os, bare, un, ok', rv, q2⟩ := hq
        obtain ⟨u1, k1, k2⟩ := un_shw e.hok q.cells nfs un ok'
        exact ⟨v, _, os, bare, u1, k1, rv, q2 k2⟩
end
/-! calls of a name that holds a function -/
def tCallV (i : Nat) (f : Addr) (S : Hp → Prop) (sp : Sp) (E : XK) (t : TA) : TE := fun σ H Q => σ[i]? = some (some (.ref f)) ∧ S H ∧ t σ H fun vs H1 => S H1 ∧ sp vs H1 Q E
section
variable {X : Cx} {CX : CXT} {i k : Nat} {f : Addr} {S : Hp → Prop} {sp : Sp} {E : XK} {x : Str} {p pos : Pos} {e : Expr} {es : List Expr} {t : TA}
theorem run_v {pins : List (Addr × Obj)} {σ : L2.St} {H : Hp} {s : Shared} {Q : VK} {us : List Value} {vs : List V} (F : FV X.prog X.w X.K X.mg X.base CX k f S sp) (hr : Room k X.A) (hx : Passes CX X E) (I : Inv X pins σ H s) (hS : S H) (r : Vals vs us) (q : sp vs H Q E) :
    wpAny (model X.prog X.w) X.A (call (.ref f) us) (EP X pins σ Q) X.xe s := by
  refine wpAny_call (codeAny_mono (F.run X.A X.stack s H us vs Q E hr I.env0 hS r q) fun rr s' hq => ?_)
  rcases rr with er | fl
  · exact hx pins σ H s er s' I hq
  · cases fl with
    | ret u => exact I.after hq
    | next => exact hq.elim
    | brk => exact hq.elim
    | cont => exact hq.elim
theorem pe_callV (F : FV X.prog X.w X.K X.mg X.base CX k f S sp) (hr : Room k X.A) (hx : Passes CX X E) (hN : X.N[i]? = some x) (hv : Vis X.env.scope x) (ha : PA X (e :: es) t)
    (hd : (x == ("__debug__" : Str)) = false := by decide) (hcd : (x == ("__classdict__" : Str)) = false := by decide)
    (he : starEach (e :: es) X.env = (false, eval e X.env) :: starEach es X.env := by rfl) (hpl : (backTo pos (starEach es X.env)).any (·.1) = false := by rfl) :
    PE X (.Call (.Name x p) (e :: es) [] pos) (tCallV i f S sp E t) := by
  refine ⟨fun pins s σ H Q I h => ?_⟩
  obtain ⟨hs, hS, ht⟩ := h
  refine wpAny_Call_Name_kw (thn ((pe_var (pos := p) hN hv hd hcd).run pins s σ H (fun v H1 => v = .ref f ∧ H1 = H) I ⟨.ref f, hs, rfl, rfl⟩) fun u s1 ⟨v, H1, I1, r1, q1⟩ => ?_)
  obtain ⟨ev, eH⟩ := q1
  subst ev
  rw [eH] at I1
  have r1' : u = Value.ref f := r1
  subst r1'
  refine PySem.W.callWith_F (first := []) (F.fn H s1.heap I1.kIn I1.hok hS) (thn (ha.run pos pins s1 σ H _ I1 ht) fun us s2 ⟨vs, H2, I2, r, h1, q⟩ => ⟨F.fn H2 s2.heap I2.kIn I2.hok h1, ?_⟩) he hpl
  exact run_v F hr hx I2 h1 r q
/-- the name in the slot i -/
theorem pcv (i : Nat) (F : FV X.prog X.w X.K X.mg X.base CX k f S sp) (hr : Room k X.A) (hx : Passes CX X E) (ha : PA X (e :: es) t) (hN : X.N[i]? = some x := by rfl) (hv : Vis X.env.scope x := by first | exact Or.inl rfl | exact Or.inr (Or.inl rfl) | exact Or.inr (Or.inr rfl))
    (hd : (x == ("__debug__" : Str)) = false := by decide) (hcd : (x == ("__classdict__" : Str)) = false := by decide)
    (he : starEach (e :: es) X.env = (false, eval e X.env) :: starEach es X.env := by rfl) (hpl : (backTo pos (starEach es X.env)).any (·.1) = false := by rfl) :
    PE X (.Call (.Name x p) (e :: es) [] pos) (tCallV i f S sp E t) := pe_callV F hr hx hN hv ha hd hcd he hpl
theorem pe_callV0 (F : FV X.prog X.w X.K X.mg X.base CX k f S sp) (hr : Room k X.A) (hx : Passes CX X E) (hN : X.N[i]? = some x) (hv : Vis X.env.scope x)
    (hd : (x == ("__debug__" : Str)) = false := by decide) (hcd : (x == ("__classdict__" : Str)) = false := by decide) : PE X (.Call (.Name x p) [] [] pos) (tCallV i f S sp E tNil) := by
  refine ⟨fun pins s σ H Q I h => ?_⟩
  obtain ⟨hs, hS, h1, q⟩ := h
  refine wpAny_Call_Name_kw (thn ((pe_var (pos := p) hN hv hd hcd).run pins s σ H (fun v H1 => v = .ref f ∧ H1 = H) I ⟨.ref f, hs, rfl, rfl⟩) fun u s1 ⟨v, H1, I1, r1, q1⟩ => ?_)
  obtain ⟨ev, eH⟩ := q1
  subst ev
  rw [eH] at I1
  have r1' : u = Value.ref f := r1
  subst r1'
  refine PySem.W.callWith_F0 (first := []) (F.fn H s1.heap I1.kIn I1.hok hS) ?_
  exact run_v F hr hx I1 h1 .nil q
end
/-! a call that hands functions of this frame on: its cells are shown meanwhile -/
structure CapX (X : Cx) (σ : L2.St) (cs : Cs) : Prop where
  ok : X.Ok
  dom : ∀ c o, cs.lookup c = some o → (∃ v, o.data = .cell v) ∧ ∃ y, X.env.cells.lookup y = some c
  all : ∀ y c, X.env.cells.lookup y = some c → ∃ o, cs.lookup c = some o
  val : ∀ (j : Nat) (y : Str) (v : V), X.N[j]? = some y → σ[j]? = some (some v) → X.env.scope.names.lookup y = some .cell → ∃ c u o, X.env.cells.lookup y = some c ∧ RelV v u ∧ cs.lookup c = some o ∧ o.data = .cell (some u)
def tCallC (X : Cx) (sp : Sp) (dvs : List V) (E : XK) (t : TA) : TE := fun σ H Q => t σ H fun vs H1 => ∀ cs : Cs, CapX X σ cs → (∀ c o, cs.lookup c = some o → H1 c = none) →
  sp (vs ++ dvs) (shw cs H1) (fun v H2 => HeldC cs H2 ∧ Q v (hid cs H2)) (fun cl d H2 => HeldC cs H2 ∧ E cl d (hid cs H2))
def capsOf (cells : List (Str × Addr)) (h : Heap) : Cs := cells.filterMap fun p => if cells.lookup p.1 = some p.2 then (h.get? p.2).map fun o => (p.2, o) else none
theorem lookup_mem {α : Type} : ∀ {l : List (Addr × α)} {c : Addr} {o : α}, l.lookup c = some o → (c, o) ∈ l
  | [], _, _, h => by cases h
  | (a, b) :: l, c, o, h => by
    rw [List.lookup_cons] at h
    cases q : c == a with
    | true =>
      rw [q] at h
      cases h
      rw [beq_iff_eq.mp q]
      exact List.mem_cons_self
    | false =>
      rw [q] at h
      exact List.mem_cons_of_mem _ (lookup_mem h)
theorem mem_lookup' {α : Type} : ∀ {l : List (Addr × α)} {c : Addr} {o : α}, (c, o) ∈ l → ∃ o', l.lookup c = some o'
  | (a, b) :: l, c, o, h => by
    rw [List.lookup_cons]
    cases q : c == a with
    | true => exact ⟨b, rfl⟩
    | false =>
      rcases List.mem_cons.mp h with e | e
      · cases e
        simp at q
      · exact mem_lookup' e
theorem capsOf_some {cells : List (Str × Addr)} {h : Heap} {c : Addr} {o : Obj} (e : (capsOf cells h).lookup c = some o) : h.get? c = some o ∧ ∃ y, cells.lookup y = some c := by
  have hm := lookup_mem e
  obtain ⟨⟨y, a⟩, _, h2⟩ := List.mem_filterMap.mp hm
  dsimp only at h2
  split at h2
  · rename_i hl
    cases q : h.get? a with
    | none => rw [q] at h2; cases h2
    | some o' =>
      rw [q] at h2
      have h3 : (a, o') = (c, o) := Option.some.inj h2
      cases h3
      exact ⟨q, y, hl⟩
  · cases h2
theorem mem_of_look {l : List (Str × Addr)} {y : Str} {c : Addr} (h : l.lookup y = some c) : (y, c) ∈ l := PySem.mem_of_lookup h
theorem capsOf_has {cells : List (Str × Addr)} {h : Heap} {y : Str} {c : Addr} {o : Obj} (e : cells.lookup y = some c) (ho : h.get? c = some o) : (capsOf cells h).lookup c = some o := by
  have hm : (c, o) ∈ capsOf cells h := List.mem_filterMap.mpr ⟨(y, c), mem_of_look e, by
    dsimp only
    rw [if_pos e, ho]
    rfl⟩
  obtain ⟨o', h'⟩ := mem_lookup' hm
  have := (capsOf_some h').1
  rw [ho] at this
  cases this
  exact h'
section
variable {X : Cx} {pins : List (Addr × Obj)} {σ : L2.St} {H : Hp} {s : Shared}
theorem capX_of (I : Inv X pins σ H s) : CapX X σ (capsOf X.env.cells s.heap) := by
  refine ⟨I.ok, fun c o e => ?_, fun y c e => ?_, fun j y v e1 e2 e3 => ?_⟩
  · obtain ⟨h1, y, h2⟩ := capsOf_some e
    obtain ⟨v, o', ho', hd⟩ := I.cell y c h2
    rw [h1] at ho'; cases ho'
    exact ⟨⟨v, hd⟩, y, h2⟩
  · obtain ⟨v, o', ho', hd⟩ := I.cell y c e
    exact ⟨o', capsOf_has e ho'⟩
  · obtain ⟨m, hn, hl⟩ := I.loc
    obtain ⟨u, r, l⟩ := hl j y v e1 e2 (.inr (.inl e3))
    rcases l with ⟨z, _⟩ | ⟨_, c, hc, o, ho, hd⟩
    · have z' : X.env.scope.names.lookup y = some .local := z
      rw [e3] at z'; cases z'
    · exact ⟨c, u, o, hc, r, capsOf_has hc ho, hd⟩
variable {CX : CXT} {k : Nat} {f : Addr} {fd : FuncData} {ps : List Str} {sp : Sp} {dvs : List V} {ds : List Value} {E : XK} {x : Str} {p pos : Pos} {e : Expr} {es : List Expr} {t : TA}
theorem caps_free (hfn : ∀ y, X.fn y = true) (I : Inv X pins σ H s) : ∀ c o, (capsOf X.env.cells s.heap).lookup c = some o → H c = none ∧ s.heap.get? c = some o ∧ c ∉ frs X.stack := fun c o e => by
  obtain ⟨h1, y, h2⟩ := capsOf_some e
  refine ⟨I.freeC y c h2, h1, fun hm => ?_⟩
  rcases List.mem_cons.mp (I.stkSub c hm) with z | z
  · exact I.cne y c h2 z
  · obtain ⟨_, o', ho', _⟩ := I.ok.funs.mem z
    exact absurd (Nat.lt_of_lt_of_le (Heap.lt_size ho') (I.ok.cab y c (hfn y) h2)) (Nat.lt_irrefl _)
theorem run_fnC {Q : VK} {us : List Value} {vs : List V} (hX : CxOk X.prog X.w CX) (F : FnOk X.prog X.w X.K X.mg X.base CX k f fd ps sp) (hr : Room k X.A) (hfn : ∀ y, X.fn y = true) (hb : Binds X.K fd ps ds) (hd : Vals dvs ds) (hx : Passes CX X E) (I : Inv X pins σ H s) (r : Vals vs us)
    (h : ∀ cs : Cs, CapX X σ cs → (∀ c o, cs.lookup c = some o → H c = none) → sp (vs ++ dvs) (shw cs H) (fun v H2 => HeldC cs H2 ∧ Q v (hid cs H2)) (fun cl d H2 => HeldC cs H2 ∧ E cl d (hid cs H2))) :
    wpAny (model X.prog X.w) X.A (call (.ref f) us) (EP X pins σ Q) X.xe s := by
  have hn := caps_free hfn I
  have hsp := h _ (capX_of I) fun c o e => (hn c o e).1
  have r2 : Vals (vs ++ dvs) (us ++ ds) := r.append hd
  have hl : (us ++ ds).length = ps.length := by rw [← r2.length]; exact F.len _ _ _ _ hsp
  have e0 := I.env0
  have notbase : ∀ b o, X.base.get? b = some o → (capsOf X.env.cells s.heap).lookup b = none := fun b o eb => by
    cases q : (capsOf X.env.cells s.heap).lookup b with
    | none => rfl
    | some y =>
      obtain ⟨_, y2, h2⟩ := capsOf_some q
      exact absurd (Nat.lt_of_lt_of_le (Nat.lt_of_lt_of_le (Heap.lt_size eb) I.ok.bsz) (I.ok.cab y2 b (hfn y2) h2)) (Nat.lt_irrefl _)
  have e1 : Env0 X.prog X.w X.K X.mg X.base X.A X.stack s (shw (capsOf X.env.cells s.heap) H) := ⟨e0.frames, e0.mod, fun b o eb => ⟨(e0.bs b o eb).1, by
      rw [shw_out (notbase b o eb)]; exact (e0.bs b o eb).2⟩, e0.bsz, e0.funs, fun b hb => by
      cases q : (capsOf X.env.cells s.heap).lookup b with
      | none => rw [shw_out q]; exact e0.frf b hb
      | some y => exact absurd hb (hn b y q).2.2, hok_shw e0.hok fun c o e => ⟨(hn c o e).1, (hn c o e).2.1⟩, e0.bare⟩
  refine wpAny_call (codeAny_mono (F.run X.A X.stack s _ ⟨us, []⟩ (us ++ ds) (vs ++ dvs) _ _ hr e1 (hb s us I.kIn hl) r2 hsp) fun rr s' hq => ?_)
  rcases rr with er | fl
  · exact hx pins σ H s er s' I (hX.hid _ _ H s E er s' hn hq)
  · cases fl with
    | ret u =>
      obtain ⟨v, H', os, bare, un, ok', rv, hc, q⟩ := hq
      obtain ⟨u1, k1⟩ := un_hid hn un ok' hc
      exact I.after ⟨v, _, os, bare, u1, k1, rv, q⟩
    | next => exact hq.elim
    | brk => exact hq.elim
    | cont => exact hq.elim
theorem pe_callC (hX : CxOk X.prog X.w CX) (F : FnOk X.prog X.w X.K X.mg X.base CX k f fd ps sp) (hr : Room k X.A) (hfn : ∀ y, X.fn y = true) (hg : Gl X x) (hm : X.mg x = some (.ref f)) (hk : PySem.W.keepIn X.K (.ref f) = true) (hb : Binds X.K fd ps ds) (hd : Vals dvs ds) (hx : Passes CX X E) (ha : PA X (e :: es) t)
    (hdb : (x == ("__debug__" : Str)) = false := by decide)
    (he : starEach (e :: es) X.env = (false, eval e X.env) :: starEach es X.env := by rfl) (hpl : (backTo pos (starEach es X.env)).any (·.1) = false := by rfl) : PE X (.Call (.Name x p) (e :: es) [] pos) (tCallC X sp dvs E t) := by
  refine ⟨fun pins s σ H Q I h => ?_⟩
  refine wpAny_Call_Name_kw (ld_glob I hg hm ?_ hdb)
  refine PySem.W.callWith_K (h₀ := X.base) I.ok.mod.kin hk (thn (ha.run pos pins s σ H _ I h) fun us s2 ⟨vs, H2, I2, r, q⟩ => ⟨I2.kIn, ?_⟩) he hpl
  exact run_fnC hX F hr hfn hb hd hx I2 r q
/-- the cells of a function made in this frame, as the frame's cells tell them -/
theorem cap_of {cs : Cs} {scope : Scope} {fr : List Str} {js : List Nat} (c : CapX X σ cs) (hfree : ∀ y ∈ scope.names, y.2 = .free → X.env.scope.names.lookup y.1 = some .cell) (hfr : ∀ y ∈ fr, (y, NameKind.free) ∈ scope.names) (hjs : js.map (fun j => X.N[j]?) = fr.map some) :
    Cap (cloFrom X.env.cells scope.names []) fr (js.map (slotAt σ)) cs := by
  have hf : ∀ y ∈ scope.names, y.2 = .free → ∃ a, X.env.cells.lookup y.1 = some a := fun y hy e => c.ok.has _ (.inl (hfree y hy e))
  have hlen := congrArg List.length hjs
  rw [List.length_map, List.length_map] at hlen
  refine ⟨by rw [List.length_map]; exact hlen, fun a o e => (c.dom a o e).1, fun y a e => c.all y a (clo_cm hf e), fun x y a e1 e2 => c.ok.inj x y a (clo_cm hf e1) (clo_cm hf e2), fun i y e => ?_⟩
  have hy := List.mem_of_getElem? e
  have hk := hfree (y, .free) (hfr y hy) rfl
  obtain ⟨a, ha⟩ := c.ok.has y (.inl hk)
  refine ⟨a, clo_has hf (hfr y hy) ha, fun v ev => ?_⟩
  have e2 : (js.map fun j => X.N[j]?)[i]? = some (some y) := by
    rw [hjs, List.getElem?_map, e]; rfl
  rw [List.getElem?_map] at e2 ev
  cases ej : js[i]? with
  | none => rw [ej] at e2; cases e2
  | some j =>
    rw [ej] at e2 ev
    have hj : X.N[j]? = some y := Option.some.inj (show some (X.N[j]?) = some (some y) from e2)
    have ev2 : σ[j]? = some (some v) := slotAt_some (Option.some.inj (show some (slotAt σ j) = some (some v) from ev))
    obtain ⟨a', u, o, h1, h2, h3, h4⟩ := c.val j y v hj ev2 hk
    rw [ha] at h1; cases h1
    exact ⟨u, o, h2, h3, h4⟩
end
/-! a def whose code object is told -/
structure FunC (K : PySem.W.Frag) (x qual : Str) (st : Stmt) (f : Addr) (fd : FuncData) (c : Addr) : Prop where
  ex : ∃ (oc : Value) (od : Option Addr) (kV doc pm : Value) (an : Option Addr) (ct : Value) (osl : Array (Option Value)),
    fd = PySem.W.fnOf x qual (defArgs st) (defBody st) (defScope st) .none kV doc pm an (.ref c) ct ∧ K.lookup f = some ⟨oc, od, .func fd, osl⟩ ∧ PySem.W.codeIn K (.ref c) qual = true
  kp : PySem.W.keepIn K (.ref f) = true
section
variable {P : Program} {w : World} {K : PySem.W.Frag} {mg : Str → Option Value} {base : Heap} {x qual : Str} {st : Stmt} {f c : Addr} {fd : FuncData} {N ps : List Str} {k : Nat} {sp : Sp}
theorem FunC.fun (F : FunC K x qual st f fd c) : Fun K x qual st f fd := by
  obtain ⟨oc, od, kV, doc, pm, an, ct, osl, e, l, h⟩ := F.ex
  exact ⟨⟨oc, od, kV, doc, pm, an, _, ct, osl, e, l, h⟩, F.kp⟩
theorem FunC.ok (F : FunC K x qual st f fd c) (S : FnScope N ps (defScope st)) (len : ∀ vs H Q E, sp vs H Q E → vs.length = ps.length)
    (hbody : ∀ (A : Around) (outer : List Env) (s : Shared) (H : Hp) (vs : List V) (Q : VK) (E : XK), Room k (A.deeper (envOfC qual (defScope st) s.heap.objs.size f (.ref c))) → sp vs H Q E →
      ∃ t, PSs (cxOf CX0 P w K mg base N qual (defScope st) f (.ref c) A outer s H E).nox (defBody st) t ∧ t { nx := fun _ H' => Q .non H', rt := Q } (start N vs) H) : FnOk P w K mg base CX0 (k + 1) f fd ps sp := by
  obtain ⟨oc, od, kV, doc, pm, an, ct, osl, rfl, lk, hcd⟩ := F.ex
  refine fn_of lk hcd S len fun A outer s H vs Q E hr hsp => ?_
  obtain ⟨t, h, q⟩ := hbody A outer s H vs Q E hr hsp
  exact ⟨t, h.nox, q⟩
theorem FunC.okX (F : FunC K x qual st f fd c) (S : FnScope N ps (defScope st)) (len : ∀ vs H Q E, sp vs H Q E → vs.length = ps.length)
    (hbody : ∀ (A : Around) (outer : List Env) (s : Shared) (H : Hp) (vs : List V) (Q : VK) (E : XK), Room k (A.deeper (envOfC qual (defScope st) s.heap.objs.size f (.ref c))) → sp vs H Q E →
      ∃ t, PSs (cxOf (L2.CX P w) P w K mg base N qual (defScope st) f (.ref c) A outer s H E) (defBody st) t ∧ t { nx := fun _ H' => Q .non H', rt := Q } (start N vs) H) : FnOk P w K mg base (L2.CX P w) (k + 1) f fd ps sp := by
  obtain ⟨oc, od, kV, doc, pm, an, ct, osl, rfl, lk, hcd⟩ := F.ex
  exact fn_of lk hcd S len fun A outer s H vs Q E hr hsp => hbody A outer s H vs Q E hr hsp
theorem funC_mk {oc : Value} {od an : Option Addr} {osl : Array (Option Value)} {kV doc pm ct : Value} (l : K.lookup f = some ⟨oc, od, .func (PySem.W.fnOf x qual (defArgs st) (defBody st) (defScope st) .none kV doc pm an (.ref c) ct), osl⟩)
    (cd : PySem.W.codeIn K (.ref c) qual = true) (k : PySem.W.keepIn K (.ref f) = true) : FunC K x qual st f (PySem.W.fnOf x qual (defArgs st) (defBody st) (defScope st) .none kV doc pm an (.ref c) ct) c := ⟨⟨oc, od, kV, doc, pm, an, ct, osl, rfl, l, cd⟩, k⟩
end
end Vf
set_option Elab.async false
set_option linter.all false
set_option maxRecDepth 100000
set_option maxHeartbeats 4000000
/-! lambdas as values -/
namespace Vf
open PySem L2 PyProof.Rows NdefX LamX
abbrev lamO (F : NF) (e : Expr) (pm ctv : Value) : Obj := PySem.W.kla_obj F.name F.qual F.params e F.scope F.cl pm F.c ctv
/-- the object at f is the lambda with this body -/
def FnL (f : Addr) (F : NF) (e : Expr) : HO := .ext fun h => ∃ (pm ctv : Value), h.get? f = some (lamO F e pm ctv)
theorem fnL_at {P : Program} {w : World} {H : Hp} {h : Heap} {f : Addr} {F : NF} {e : Expr} (ok : HOk P w H h) (q : H f = some (FnL f F e)) : ∃ (pm ctv : Value), h.get? f = some (lamO F e pm ctv) := (ok f _ q).1
structure LOk (P : Program) (w : World) (K : PySem.W.Frag) (mg : Str → Option Value) (base : Heap) (CX : CXT) (k : Nat) (f : Addr) (F : NF) (e : Expr) (ps fr : List Str) (sp : List (Option V) → Sp) : Prop where
  run : ∀ (A : Around) (outer : List Env) (s : Shared) (H : Hp) (us : List Value) (vs : List V) (ws : List (Option V)) (Q : VK) (E : XK), Room k A → Env0 P w K mg base A outer s H → H f = some (FnL f F e) → H F.c = some (CodeO F.c F.qual) →
    CellsAt F.cl fr ws s.heap H → Vals vs us → sp ws vs H Q E → codeAny (model P w) A (.call (.ref f) ⟨us, []⟩) (CR CX outer P w H s Q E) s
structure HeldL (f : Addr) (F : NF) (e : Expr) (cs : Cs) (H : Hp) : Prop where
  fn : H f = some (FnL f F e)
  code : H F.c = some (CodeO F.c F.qual)
  cells : HeldC cs H
section
variable {P : Program} {w : World} {K : PySem.W.Frag} {mg : Str → Option Value} {base : Heap} {CX : CXT} {k : Nat} {f : Addr} {F : NF} {e : Expr} {N ps fr : List Str} {ws : List (Option V)} {cs : Cs} {sp : List (Option V) → Sp}
theorem lok_of (S : NScope N ps fr F.scope) (hb : ∀ (pm ctv : Value) (us : List Value), us.length = ps.length → bindArgs (PySem.W.kla_fn F.name F.qual F.params e F.scope F.cl pm (.ref F.c) ctv) ⟨us, []⟩ = pure (ps.zip us)) (len : ∀ ws vs H Q E, sp ws vs H Q E → vs.length = ps.length)
    (hbody : ∀ (A : Around) (outer : List Env) (s : Shared) (H : Hp) (vs : List V) (ws : List (Option V)) (Q : VK) (E : XK), Room k (A.deeper (envF F f s.heap.objs.size)) → ws.length = fr.length → sp ws vs H Q E →
      ∃ t, PE (ncx CX P w K mg base N F f A outer s H E) e t ∧ t (startF N vs ws) H Q) :
    LOk P w K mg base CX (k + 1) f F e ps fr sp := by
  refine ⟨fun A outer s H us vs ws Q E hr e0 hf hc C r hsp => ?_⟩
  have hl := len _ _ _ _ _ hsp
  have lim : s.heap.NoLimit := e0.mod.nolimit.keeps fun b o eb => (e0.bs b o eb).1
  obtain ⟨pm, ctv, ho⟩ := fnL_at e0.hok hf
  obtain ⟨⟨oc, vc, tc, hoc, hdc, hvc⟩, _, _⟩ := e0.hok _ _ hc
  refine PySem.W.kla_callFunE hr.depth ho rfl S.co S.gen rfl ⟨F.c, oc, vc, tc, rfl, hoc, hdc, hvc⟩ ?_
  have hbu := hb pm ctv us (by rw [← r.length]; exact hl)
  rw [hbu]
  refine wpAny_pure (wpAny_newFunctionEnv S.nocell (fun ⟨n, _⟩ hy => S.par n (List.of_mem_zip hy).1) (fun h₁ hns hsb => ⟨lim.fresh _ hsb, ?_⟩) S.kind)
  show codeAny _ _ (.expr e (envF F f s.heap.objs.size)) _ _
  have keeps : ∀ b o, s.heap.get? b = some o → h₁.get? b = some o := fun b o eb => hsb.extBut b o (Nat.ne_of_lt (Heap.lt_size eb)) (Heap.get?_push_of_some _ eb)
  obtain ⟨t, ht, hq⟩ := hbody A outer s H vs ws Q E (hr.deeper _) C.len hsp
  have I := inv_startN (CX := CX) (P := P) (w := w) (K := K) (mg := mg) (base := base) (f := f) (A := A) (outer := outer) (E := E) (tk := s.toks + (ps.zip us).length) S hr.hd e0 hl r C hns keeps
  refine PySem.W.kla_codeExpr (wpAny_mono (ht.run [] _ (startF N vs ws) H Q I hq) (fun v s' hs => ?_) fun er s' hs => hs)
  obtain ⟨v2, H2, J, rv, q⟩ := hs
  exact ⟨v2, H2, J.os, J.bare, J.base, J.hok, rv, q⟩
theorem fv_of_lok (hX : CxOk P w CX) (o : LOk P w K mg base CX k f F e ps fr sp) (c : Cap F.cl fr ws cs) : FV P w K mg base CX k f (HeldL f F e cs) (spHid cs (sp ws)) := by
  refine ⟨fun H h ki ok q => ?_, fun A outer s H us vs Q E hr e0 q r z => ?_⟩
  · obtain ⟨pm, ctv, ho⟩ := fnL_at ok q.fn
    exact ⟨_, _, _, _, ho⟩
  · have nfs : ∀ c o, cs.lookup c = some o → c ∉ frs outer := fun c o e1 hm => by
      have := e0.frf c hm
      rw [q.cells c o e1] at this; cases this
    have okh := hok_hid e0.hok q.cells
    have e2 : Env0 P w K mg base A outer s (hid cs H) := ⟨e0.frames, e0.mod, fun b o eb => ⟨(e0.bs b o eb).1, by
        cases q2 : cs.lookup b with
        | some y => exact hid_in q2
        | none => rw [hid_out q2]; exact (e0.bs b o eb).2⟩, e0.bsz, e0.funs, fun b hb => by
        cases q2 : cs.lookup b with
        | some y => exact hid_in q2
        | none => rw [hid_out q2]; exact e0.frf b hb, okh, e0.bare⟩
    have of : cs.lookup f = none := by
      cases q2 : cs.lookup f with
      | none => rfl
      | some y =>
        obtain ⟨pm, ctv, ho⟩ := fnL_at e0.hok q.fn
        have h1 := cell_at e0.hok q.cells q2
        obtain ⟨v, hv⟩ := c.cell f y q2
        rw [ho] at h1; cases h1; cases hv
    have oc : cs.lookup F.c = none := by
      cases q2 : cs.lookup F.c with
      | none => rfl
      | some y =>
        obtain ⟨⟨o1, v1, t1, h1, h2, h3⟩, _, _⟩ := e0.hok _ _ q.code
        have h4 := cell_at e0.hok q.cells q2
        obtain ⟨v, hv⟩ := c.cell _ y q2
        rw [h1] at h4; cases h4
        rw [h2] at hv; cases hv
    have C : CellsAt F.cl fr ws s.heap (hid cs H) := ⟨c.len, fun y a ea => by
        obtain ⟨o, ho⟩ := c.all y a ea
        obtain ⟨v, hv⟩ := c.cell a o ho
        exact ⟨hid_in ho, v, o, cell_at e0.hok q.cells ho, hv⟩, c.inj, fun i y ey => by
        obtain ⟨a, ha, hv⟩ := c.has i y ey
        exact ⟨a, ha, fun v ev => by
          obtain ⟨u, o, h1, h2, h3⟩ := hv v ev
          exact ⟨u, h1, o, cell_at e0.hok q.cells h2, h3⟩⟩⟩
    refine codeAny_mono (o.run A outer s (hid cs H) us vs ws _ _ hr e2 (by rw [hid_out of]; exact q.fn) (by rw [hid_out oc]; exact q.code) C r z) fun rr s' hq => ?_
    rcases rr with er | fl
    · exact hX.shw outer cs H s E er s' e0.hok q.cells nfs hq
    · cases fl with
      | next => exact hq
      | brk => exact hq
      | cont => exact hq
      | ret u =>
        obtain ⟨v, H', os, bare, un, ok', rv, q2⟩ := hq
        obtain ⟨u1, k1, k2⟩ := un_shw e0.hok q.cells nfs un ok'
        exact ⟨v, _, os, bare, u1, k1, rv, q2 k2⟩
end
section
variable {X : Cx} {pins : List (Addr × Obj)} {σ : L2.St} {H : Hp} {s : Shared}
theorem inv_fnL {F : NF} {e : Expr} {o : Obj} {t' : Nat} {pm ctv : Value} (I : Inv X pins σ H s) (ho : o = lamO F e pm ctv) :
    Inv X pins σ (upd H s.heap.objs.size (FnL s.heap.objs.size F e)) { s with heap := s.heap.push o, toks := t' } := by
  subst ho
  refine I.laid (a := s.heap.objs.size) (fun b u eb => Heap.get?_push_of_some _ eb) (Nat.le_refl _) ?_
  have e1 : (s.heap.push (lamO F e pm ctv)).get? s.heap.objs.size = some (lamO F e pm ctv) := Heap.get?_push_size _ rfl
  exact ⟨⟨pm, ctv, e1⟩, ⟨_, e1⟩, fun h1 h2 ⟨p, t, z⟩ st => ⟨p, t, st _ z⟩⟩
/-- its code object is new, or stands in the table -/
theorem lam_made {T : List NTab} {nm : Nat → Nat → Str} {c P : Addr} {params : Arguments} {body : Expr} {scope : Scope} {pos : Pos} {E : Value → Shared → Prop} {Q : Value → Shared → Prop} (I : Inv X pins σ H s) (TB : TabB X.base X.mg c P) (hcode : X.env.code = .ref c)
    (hm : (P, nm) ∈ T) (hn : nm pos.line pos.col = X.env.qual ++ "<lambda>") (hu : ∀ p ∈ T, p.1 = P → p.2 = nm) (hT : TabsN T H) (hdef : defaultsOf params X.env = ([], [])) (hfree : ∀ y ∈ scope.names, y.2 = .free → ∃ c, X.env.cells.lookup y.1 = some c)
    (h : ∀ (f c' : Addr) (H1 : Hp) (s' : Shared), Inv X pins σ H1 s' → ExtN H H1 → (∀ b, H1 b = none → H b = none) → TabsN T H1 → H f = none → H1 f = some (FnL f ⟨"<lambda>", X.env.qual ++ "<lambda>", params, [], scope, cloFrom X.env.cells scope.names [], c'⟩ body) → H1 c' = some (CodeO c' (X.env.qual ++ "<lambda>")) → Q (.ref f) s') :
    wpAny (model X.prog X.w) X.A (eval (.Lambda params body scope pos) X.env) Q E s := by
  obtain ⟨ps, hP, ht, ha⟩ := (show TabN H P nm from hT _ hm)
  have bP : s.heap.BuiltinsAt X.mg P := TB.bm.keeps I.bk
  have hP' : s.heap.get? P = some { cls := .none, data := .fields ps } := I.hok P _ hP
  refine PySem.W.kla_eval hdef ?_
  cases hc : codeAmong pos ps.toList with
  | none =>
    refine PySem.W.kla_makeFunction (mg := X.mg) (c := c) (P := P) (ps := ps) (closure_ok hfree) I.ok.glob (I.mod.glob.keeps I.bk) hcode (TB.code.keeps I.bk) hP' ht hc TB.gP bP fun c' ctv h' tk hx hge hlt hrec htb => ?_
    obtain ⟨c2, oc, vs, t, e2, hoc, hd, hv⟩ := hrec
    cases e2
    have nC : H c' = none := I.hok.fresh hge
    have I1 := inv_table (t' := tk) (more := #[rawInt pos.line, rawInt pos.col, .ref c']) (h' := h') I hP (fun b o hb e => hx b o hb e) htb hge ⟨oc, vs, t, hoc, hd, hv⟩
    generalize eH1 : upd (upd H P (.tbl (ps ++ #[rawInt pos.line, rawInt pos.col, .ref c']))) c' (CodeO c' (X.env.qual ++ "<lambda>")) = H1
    have hE : ExtN H H1 := fun b o e n => by
      have n1 : b ≠ P := fun z => n ps (Option.some.inj (e.symm.trans (by rw [z]; exact hP)))
      rw [← eH1, upd_ne (ne_of_none e nC), upd_ne n1]
      exact e
    have T1 : TabsN T H1 := fun p hp => by
      by_cases hb : p.1 = P
      · have e3 : p.2 = nm := hu p hp hb
        rw [e3, hb]
        refine ⟨ps ++ #[rawInt pos.line, rawInt pos.col, .ref c'], by rw [← eH1, upd_ne (ne_of_none hP nC), upd_same], ?_, fun p' cv hcv => ?_⟩
        · rw [Array.toList_append]
          exact PySem.TriplesOk_snoc _ _ _ _ ht
        · rw [Array.toList_append] at hcv
          rcases among_app2 _ ht hcv with z | ⟨z, z1, z2⟩
          · obtain ⟨c0, e1, e2⟩ := ha p' cv z
            exact ⟨c0, e1, hE _ _ e2 codeO_ne⟩
          · refine ⟨c', z, ?_⟩
            rw [← z1, ← z2, hn, ← eH1]
            exact upd_same
      · obtain ⟨ps', a1, a2, a3⟩ := hT p hp
        refine ⟨ps', by rw [← eH1, upd_ne (ne_of_none a1 nC), upd_ne hb]; exact a1, a2, fun p' cv hcv => ?_⟩
        obtain ⟨c0, e1, e2⟩ := a3 p' cv hcv
        exact ⟨c0, e1, hE _ _ e2 codeO_ne⟩
    have cH1 : H1 c' = some (CodeO c' (X.env.qual ++ "<lambda>")) := by rw [← eH1]; exact upd_same
    have back : ∀ b, H1 b = none → H b = none := fun b e => by
      rw [← eH1] at e
      exact upd_none (upd_none e)
    rw [eH1] at I1
    have nF := I1.hok.fresh (Nat.le_refl _)
    have I2 := inv_fnL (F := ⟨"<lambda>", X.env.qual ++ "<lambda>", params, [], scope, cloFrom X.env.cells scope.names [], c'⟩) (e := body) (t' := tk) (pm := (X.mg "__name__").getD .none) (ctv := ctv) I1 rfl
    refine h h'.objs.size c' _ _ I2 (fun b o e n => ?_) (fun b e => back b (upd_none e)) (T1.ext fun b o e => ?_) (I.hok.fresh (Nat.le_trans hge (Nat.le_of_lt hlt))) upd_same ?_
    · exact (upd_ne (ne_of_none (hE b o e n) nF)).trans (hE b o e n)
    · exact (upd_ne (ne_of_none e nF)).trans e
    · exact (upd_ne (Nat.ne_of_lt hlt)).trans cH1
  | some cv =>
    obtain ⟨c', e, hco⟩ := ha pos cv hc
    subst e
    rw [hn] at hco
    refine PySem.W.kla_makeFunctionHit (mg := X.mg) (c := c) (P := P) (ps := ps) (closure_ok hfree) I.ok.glob (I.mod.glob.keeps I.bk) hcode (TB.code.keeps I.bk) hP' ht hc bP fun ctv h' tk hx hsz => ?_
    have I1 : Inv X pins σ H { s with heap := h', toks := tk } := I.kept hx
    have nF : H h'.objs.size = none := I1.hok.fresh (Nat.le_refl _)
    have I2 := inv_fnL (F := ⟨"<lambda>", X.env.qual ++ "<lambda>", params, [], scope, cloFrom X.env.cells scope.names [], c'⟩) (e := body) (t' := tk) (pm := (X.mg "__name__").getD .none) (ctv := ctv) I1 rfl
    refine h h'.objs.size c' _ _ I2 (fun b o e n => ?_) (fun b e => upd_none e) (hT.ext fun b o e => ?_) nF upd_same ?_
    · exact (upd_ne (ne_of_none e nF)).trans e
    · exact (upd_ne (ne_of_none e nF)).trans e
    · exact (upd_ne (ne_of_none hco nF)).trans hco
end
/-- the reading of a lambda's making -/
def tLamV (T : List NTab) (mk : Addr → NF) (body : Expr) : TE := fun σ H Q => TabsN T H ∧ ∀ (f c' : Addr) (H1 : Hp), ExtN H H1 → (∀ b, H1 b = none → H b = none) → TabsN T H1 → H f = none → H1 f = some (FnL f (mk c') body) → H1 c' = some (CodeO c' (mk c').qual) → Q (.ref f) H1
theorem pe_lamV {X : Cx} {T : List NTab} {nm : Nat → Nat → Str} {c P : Addr} {params : Arguments} {body : Expr} {scope : Scope} {pos : Pos} (TB : TabB X.base X.mg c P) (hcode : X.env.code = .ref c) (hm : (P, nm) ∈ T) (hn : nm pos.line pos.col = X.env.qual ++ "<lambda>") (hu : ∀ p ∈ T, p.1 = P → p.2 = nm)
    (hdef : defaultsOf params X.env = ([], [])) (hfree : ∀ y ∈ scope.names, y.2 = .free → X.env.scope.names.lookup y.1 = some .cell ∨ X.env.scope.names.lookup y.1 = some .free) :
    PE X (.Lambda params body scope pos) (tLamV T (fun c' => ⟨"<lambda>", X.env.qual ++ "<lambda>", params, [], scope, cloFrom X.env.cells scope.names [], c'⟩) body) := by
  refine ⟨fun pins s σ H Q I h => ?_⟩
  obtain ⟨hT, h⟩ := h
  have hfr : ∀ y ∈ scope.names, y.2 = .free → ∃ c, X.env.cells.lookup y.1 = some c := fun y hy e => (hfree y hy e).elim (fun z => I.ok.has _ (.inl z)) fun z => I.ok.has _ (.inr z)
  exact lam_made I TB hcode hm hn hu hT hdef hfr fun f c' H1 s' I1 eN back T1 f0 f1 c1 => ⟨.ref f, H1, I1, rfl, h f c' H1 eN back T1 f0 f1 c1⟩
end Vf
set_option Elab.async false
set_option linter.all false
set_option maxRecDepth 100000
set_option maxHeartbeats 4000000
/-! machines explored: the mirror, keys, dicts of numbers -/
namespace Vf
open PySem L2 PyProof.Rows NdefX LamX
section
variable {κ : Type} [DecidableEq κ]
/-- the number of a key among those found -/
def num (ks : List κ) (k : κ) : Nat := ks.idxOf k
/-- one letter: the key behind is added where it is new -/
def add1 (ks : List κ) (k : κ) : List κ := if k ∈ ks then ks else ks ++ [k]
/-- a row: state (keys, row) over the letters -/
def rowOf (st : κ → Nat → κ) (m : κ) : List Nat → List κ × List Nat → List κ × List Nat
  | [], p => p
  | c :: cs, (ks, row) => rowOf st m cs (add1 ks (st m c), row ++ [num (add1 ks (st m c)) (st m c)])
/-- one turn of the exploring -/
def turn (st : κ → Nat → κ) (L : List Nat) (p : List κ × List (List Nat)) : List κ × List (List Nat) :=
  match p.1[p.2.length]? with
  | none => p
  | some m => ((rowOf st m L (p.1, [])).1, p.2 ++ [(rowOf st m L (p.1, [])).2])
def turns (st : κ → Nat → κ) (L : List Nat) (s0 : κ) : Nat → List κ × List (List Nat)
  | 0 => ([s0], [])
  | n + 1 => turn st L (turns st L s0 n)
theorem add1_mem {ks : List κ} {k : κ} : k ∈ add1 ks k := by
  unfold add1
  split
  · assumption
  · simp
theorem add1_sub {ks : List κ} {k x : κ} (h : x ∈ ks) : x ∈ add1 ks k := by
  unfold add1
  split
  · exact h
  · simp [h]
theorem add1_pre (ks : List κ) (k : κ) : ks <+: add1 ks k := by
  unfold add1
  split
  · exact List.prefix_refl _
  · exact List.prefix_append _ _
theorem add1_nodup {ks : List κ} {k : κ} (h : ks.Nodup) : (add1 ks k).Nodup := by
  unfold add1
  split
  · exact h
  · rename_i hn
    exact List.nodup_append.mpr ⟨h, by simp, fun a ha b hb e => by simp at hb; subst hb; subst e; exact hn ha⟩
theorem add1_len (ks : List κ) (k : κ) : (add1 ks k).length ≤ ks.length + 1 := by
  unfold add1
  split
  · omega
  · simp
theorem rowOf_pre (st : κ → Nat → κ) (m : κ) : ∀ (L : List Nat) (p : List κ × List Nat), p.1 <+: (rowOf st m L p).1
  | [], p => List.prefix_refl _
  | c :: cs, (ks, row) => (add1_pre ks (st m c)).trans (rowOf_pre st m cs (add1 ks (st m c), row ++ [num (add1 ks (st m c)) (st m c)]))
theorem rowOf_nodup (st : κ → Nat → κ) (m : κ) : ∀ (L : List Nat) (p : List κ × List Nat), p.1.Nodup → (rowOf st m L p).1.Nodup
  | [], p, h => h
  | c :: cs, (ks, row), h => rowOf_nodup st m cs _ (add1_nodup h)
theorem rowOf_len (st : κ → Nat → κ) (m : κ) : ∀ (L : List Nat) (p : List κ × List Nat), (rowOf st m L p).1.length ≤ p.1.length + L.length
  | [], p => Nat.le_refl _
  | c :: cs, (ks, row) => by
    have h1 := rowOf_len st m cs (add1 ks (st m c), row ++ [num (add1 ks (st m c)) (st m c)])
    have h2 := add1_len ks (st m c)
    show (rowOf st m cs (add1 ks (st m c), row ++ [num (add1 ks (st m c)) (st m c)])).1.length ≤ ks.length + (cs.length + 1)
    dsimp only at h1
    omega
theorem rowOf_row (st : κ → Nat → κ) (m : κ) : ∀ (L : List Nat) (p : List κ × List Nat), (rowOf st m L p).2.length = p.2.length + L.length
  | [], p => rfl
  | c :: cs, (ks, row) => by
    have h1 := rowOf_row st m cs (add1 ks (st m c), row ++ [num (add1 ks (st m c)) (st m c)])
    show (rowOf st m cs (add1 ks (st m c), row ++ [num (add1 ks (st m c)) (st m c)])).2.length = row.length + (cs.length + 1)
    rw [h1, List.length_append]
    show row.length + 1 + cs.length = row.length + (cs.length + 1)
    omega
theorem rowOf_append (st : κ → Nat → κ) (m : κ) : ∀ (L L' : List Nat) (p : List κ × List Nat), rowOf st m (L ++ L') p = rowOf st m L' (rowOf st m L p)
  | [], L', p => rfl
  | c :: cs, L', (ks, row) => rowOf_append st m cs L' _
theorem turn_pre (st : κ → Nat → κ) (L : List Nat) (p : List κ × List (List Nat)) : p.1 <+: (turn st L p).1 := by
  unfold turn
  split
  · exact List.prefix_refl _
  · exact rowOf_pre st _ L (p.1, [])
theorem turns_pre (st : κ → Nat → κ) (L : List Nat) (s0 : κ) : ∀ {i n : Nat}, i ≤ n → (turns st L s0 i).1 <+: (turns st L s0 n).1
  | i, 0, h => by
    have : i = 0 := by omega
    subst this
    exact List.prefix_refl _
  | i, n + 1, h => by
    by_cases e : i = n + 1
    · subst e; exact List.prefix_refl _
    · exact (turns_pre st L s0 (by omega : i ≤ n)).trans (turn_pre st L _)
theorem turns_len (st : κ → Nat → κ) (L : List Nat) (s0 : κ) {i n : Nat} (h : i ≤ n) : (turns st L s0 i).1.length ≤ (turns st L s0 n).1.length := (turns_pre st L s0 h).length_le
theorem turns_nodup (st : κ → Nat → κ) (L : List Nat) (s0 : κ) : ∀ n, (turns st L s0 n).1.Nodup
  | 0 => by simp [turns]
  | n + 1 => by
    show (turn st L (turns st L s0 n)).1.Nodup
    unfold turn
    split
    · exact turns_nodup st L s0 n
    · exact rowOf_nodup st _ L (_, []) (turns_nodup st L s0 n)
theorem turns_rows_le (st : κ → Nat → κ) (L : List Nat) (s0 : κ) : ∀ n, (turns st L s0 n).2.length ≤ (turns st L s0 n).1.length
  | 0 => by simp [turns]
  | n + 1 => by
    show (turn st L (turns st L s0 n)).2.length ≤ (turn st L (turns st L s0 n)).1.length
    unfold turn
    split
    · exact turns_rows_le st L s0 n
    · rename_i m hm
      have h1 := (List.getElem?_eq_some_iff.mp hm).1
      have h2 := (rowOf_pre st m L ((turns st L s0 n).1, [])).length_le
      rw [List.length_append]
      dsimp only at h2 ⊢
      rw [List.length_singleton]
      omega
/-- once as many rows as keys stand, nothing changes -/
theorem turn_stays (st : κ → Nat → κ) (L : List Nat) {p : List κ × List (List Nat)} (h : p.1.length ≤ p.2.length) : turn st L p = p := by
  unfold turn
  rw [List.getElem?_eq_none h]
theorem turns_stay (st : κ → Nat → κ) (L : List Nat) (s0 : κ) {i : Nat} (h : (turns st L s0 i).1.length ≤ (turns st L s0 i).2.length) : ∀ n, i ≤ n → turns st L s0 n = turns st L s0 i
  | 0, hn => by
    have : i = 0 := by omega
    subst this; rfl
  | n + 1, hn => by
    by_cases e : i = n + 1
    · subst e; rfl
    · have ih := turns_stay st L s0 h n (by omega)
      show turn st L (turns st L s0 n) = _
      rw [ih]
      exact turn_stays st L h
/-- while not all keys have a row, each turn adds one -/
theorem turns_rows (st : κ → Nat → κ) (L : List Nat) (s0 : κ) : ∀ {n : Nat}, (∀ i < n, (turns st L s0 i).2.length < (turns st L s0 i).1.length) → (turns st L s0 n).2.length = n
  | 0, _ => rfl
  | n + 1, h => by
    have ih := turns_rows st L s0 (n := n) fun i hi => h i (by omega)
    have hl := h n (by omega)
    show (turn st L (turns st L s0 n)).2.length = n + 1
    unfold turn
    rw [List.getElem?_eq_getElem hl]
    dsimp only
    rw [List.length_append, List.length_singleton, ih]
/-- what all is found, if no more than most keys come -/
theorem turns_done (st : κ → Nat → κ) (L : List Nat) (s0 : κ) {most : Nat} (h : (turns st L s0 most).1.length ≤ most) : (turns st L s0 most).2.length = (turns st L s0 most).1.length := by
  by_cases q : ∀ i < most, (turns st L s0 i).2.length < (turns st L s0 i).1.length
  · have h1 := turns_rows st L s0 q
    have h2 := turns_rows_le st L s0 most
    omega
  · simp only [Nat.not_lt, Classical.not_forall] at q
    obtain ⟨i, hi, hq⟩ := q
    have e := turns_stay st L s0 hq most (by omega)
    rw [e]
    have h2 := turns_rows_le st L s0 i
    omega
theorem num_lt {ks : List κ} {k : κ} (h : k ∈ ks) : num ks k < ks.length := List.idxOf_lt_length_iff.mpr h
theorem rowOf_all (st : κ → Nat → κ) (m : κ) : ∀ (L : List Nat) (p : List κ × List Nat), (∀ x ∈ p.2, x < p.1.length) → ∀ x ∈ (rowOf st m L p).2, x < (rowOf st m L p).1.length
  | [], p, h => h
  | c :: cs, (ks, row), h => rowOf_all st m cs (add1 ks (st m c), row ++ [num (add1 ks (st m c)) (st m c)]) fun x hx => by
    rcases List.mem_append.mp hx with q | q
    · exact Nat.lt_of_lt_of_le (h x q) (add1_pre ks (st m c)).length_le
    · rw [List.mem_singleton.mp q]
      exact num_lt add1_mem
theorem turns_all (st : κ → Nat → κ) (L : List Nat) (s0 : κ) : ∀ n, ∀ row ∈ (turns st L s0 n).2, row.length = L.length ∧ ∀ x ∈ row, x < (turns st L s0 n).1.length
  | 0, row, h => nomatch h
  | n + 1, row, h => by
    have ih := turns_all st L s0 n
    have hp := (turns_pre st L s0 (Nat.le_succ n)).length_le
    revert h hp
    show row ∈ (turn st L (turns st L s0 n)).2 → (turns st L s0 n).1.length ≤ (turn st L (turns st L s0 n)).1.length → row.length = L.length ∧ ∀ x ∈ row, x < (turn st L (turns st L s0 n)).1.length
    unfold turn
    split
    · intro h _
      exact ih row h
    · rename_i m hm
      intro h hp
      rcases List.mem_append.mp h with q | q
      · exact ⟨(ih row q).1, fun x hx => Nat.lt_of_lt_of_le ((ih row q).2 x hx) hp⟩
      · rw [List.mem_singleton.mp q]
        refine ⟨by rw [rowOf_row]; simp, rowOf_all st m L _ (fun x hx => nomatch hx)⟩
theorem rowOf_dm (st : κ → Nat → κ) {Dm : κ → Prop} {m : κ} (hm : Dm m) : ∀ (L : List Nat) (_ : ∀ k c, Dm k → c ∈ L → Dm (st k c)) (p : List κ × List Nat), (∀ k ∈ p.1, Dm k) → ∀ k ∈ (rowOf st m L p).1, Dm k
  | [], _, p, h => h
  | c :: cs, hD, (ks, row), h => rowOf_dm st hm cs (fun k d hk hd => hD k d hk (List.mem_cons_of_mem _ hd)) (add1 ks (st m c), row ++ [num (add1 ks (st m c)) (st m c)]) fun k hk => by
    have hk : k ∈ add1 ks (st m c) := hk
    unfold add1 at hk
    split at hk
    · exact h k hk
    · rcases List.mem_append.mp hk with q | q
      · exact h k q
      · rw [List.mem_singleton.mp q]; exact hD m c hm List.mem_cons_self
theorem turns_dm (st : κ → Nat → κ) (L : List Nat) (s0 : κ) {Dm : κ → Prop} (h0 : Dm s0) (hD : ∀ k c, Dm k → c ∈ L → Dm (st k c)) : ∀ n, ∀ k ∈ (turns st L s0 n).1, Dm k
  | 0, k, h => by rw [List.mem_singleton.mp h]; exact h0
  | n + 1, k, h => by
    have ih := turns_dm st L s0 h0 hD n
    revert h
    show k ∈ (turn st L (turns st L s0 n)).1 → Dm k
    unfold turn
    split
    · exact ih k
    · rename_i m hm
      exact rowOf_dm st (ih m (List.mem_of_getElem? hm)) L hD (_, []) ih k
/-! dicts from keys to their numbers -/
def nums (ks : List κ) : List (κ × V) := ks.zipIdx.map fun p => (p.1, V.int (p.2 : Int))
theorem nums_len (ks : List κ) : (nums ks).length = ks.length := by simp [nums]
theorem nums_snoc (ks : List κ) (k : κ) : nums (ks ++ [k]) = nums ks ++ [(k, V.int (ks.length : Int))] := by
  simp [nums, List.zipIdx_append]
theorem valV_append (k : κ) : ∀ (a b : List (κ × V)), valV (a ++ b) k = (valV a k).orElse fun _ => valV b k
  | [], b => rfl
  | p :: a, b => by
    by_cases e : p.1 = k
    · rw [List.cons_append, valV_pos e, valV_pos e]; rfl
    · rw [List.cons_append, valV_neg e, valV_neg e]; exact valV_append k a b
theorem valV_numsAt {k : κ} : ∀ (ks : List κ) (n : Nat), valV ((ks.zipIdx n).map fun p => (p.1, V.int (p.2 : Int))) k = if k ∈ ks then some (V.int ((n + ks.idxOf k : Nat) : Int)) else none
  | [], _ => rfl
  | x :: ks, n => by
    rw [List.zipIdx_cons, List.map_cons]
    by_cases e : x = k
    · subst e
      rw [valV_pos rfl, if_pos (by simp), List.idxOf_cons_self]
      rfl
    · have ex : ¬ k = x := fun z => e z.symm
      rw [valV_neg e, valV_numsAt ks (n + 1)]
      by_cases h : k ∈ ks
      · have e2 : (x :: ks).idxOf k = ks.idxOf k + 1 := by rw [List.idxOf_cons, beq_false_of_ne e]; rfl
        rw [if_pos h, if_pos (by simp [h]), e2]
        congr 2
        omega
      · rw [if_neg h, if_neg (by simp [h, ex])]
theorem valV_nums {k : κ} {ks : List κ} : valV (nums ks) k = if k ∈ ks then some (V.int (num ks k : Nat)) else none := by
  have := valV_numsAt (k := k) ks 0
  rw [Nat.zero_add] at this
  exact this
theorem putK_nums {ks : List κ} {k : κ} (h : k ∉ ks) : putK (nums ks) k (V.int (ks.length : Int)) = nums (ks ++ [k]) := by
  rw [nums_snoc, putK_new]
  rw [valV_nums, if_neg h]
end
/-! {k: v}, one pair, the key a tuple -/
def tDispT (tk tv : TE) : TE := fun σ H Q => ∀ p, H p = none → tPairs [(tk, tv)] σ (L2.upd H p (.dT [])) fun ps H2 => H2 p = some (.dT []) ∧
  ∃ (x : List Key) (b : Addr) (v : V), ps = [(.ref b, v)] ∧ H2 b = some (.tup (x.map kV)) ∧ Q (.ref p) (L2.upd H2 p (.dT [(x, v)]))
theorem Raised.aft {H H1 H' : Hp} {d : Addr} {f : Str} {v : V} (s : Same H H1) (r : Raised H1 H' d f v) : Raised H H' d f v := ⟨s.free r.1, r.2.1, s.trans r.2.2⟩
/-! kinds of keys: ints and texts; tuples of them -/
structure Kd (κ : Type) [DecidableEq κ] where
  at_ : Hp → V → κ → Prop
  dic : List (κ × V) → HO
  get : ∀ {H : Hp} {a : Addr} {v : V} {k : κ} {kvs : List (κ × V)}, H a = some (dic kvs) → at_ H v k → DGet H a v (valV kvs k)
  put : ∀ {H : Hp} {a : Addr} {v x : V} {k : κ} {kvs : List (κ × V)}, H a = some (dic kvs) → at_ H v k → kvs.length < sizeLine → DPut H a v x (L2.upd H a (dic (putK kvs k x)))
  isd : ∀ {H : Hp} {a : Addr} {kvs : List (κ × V)}, H a = some (dic kvs) → IsD H a
  keep : ∀ {H H' : Hp} {v : V} {k : κ}, at_ H v k → (∀ b xs, H b = some (.tup xs) → H' b = some (.tup xs)) → at_ H' v k
  some_ : ∀ {H : Hp} {v : V} {k : κ}, at_ H v k → v ≠ .non
  disp : ∀ {σ : L2.St} {H : Hp} {i : Nat} {Q : VK} {v : V} {k : κ} {n : Int}, σ[i]? = some (some v) → at_ H v k → (∀ p, H p = none → Q (.ref p) (L2.upd H p (dic [(k, .int n)]))) →
    tDisp [(tVar i, tC (.int n))] σ H Q ∨ tDispT (tVar i) (tC (.int n)) σ H Q
  notLst : ∀ kvs xs, dic kvs ≠ .lst xs
  notTup : ∀ kvs xs, dic kvs ≠ .tup xs
  notExt : ∀ kvs φ, dic kvs ≠ .ext φ
def kdK : Kd Key where
  at_ := fun _ v k => v = kV k
  dic := .dK
  get := fun e h => by rw [h]; exact DGet.k e
  put := fun e h l => by rw [h]; exact DPut.k e l
  isd := fun e => .inl ⟨_, .inl e⟩
  keep := fun h _ => h
  some_ := fun {H v k} h => by rw [h]; cases k <;> exact fun z => nomatch z
  disp := fun {σ H i Q v k n} e h q => .inl fun p hp => ⟨v, e, upd_same, [(k, .int n)], by rw [h]; rfl, by show 1 ≤ 15; omega, by rw [upd_upd]; exact q p hp⟩
  notLst := fun _ _ z => nomatch z
  notTup := fun _ _ z => nomatch z
  notExt := fun _ _ z => nomatch z
def kdT : Kd (List Key) where
  at_ := fun H v k => ∃ b, v = .ref b ∧ H b = some (.tup (k.map kV))
  dic := .dT
  get := fun e ⟨b, h1, h2⟩ => by rw [h1]; exact DGet.t e h2
  put := fun e ⟨b, h1, h2⟩ l => by rw [h1]; exact DPut.t e h2 l
  isd := fun e => .inr ⟨_, .inl e⟩
  keep := fun ⟨b, h1, h2⟩ k => ⟨b, h1, k _ _ h2⟩
  some_ := fun ⟨b, h1, _⟩ => by rw [h1]; exact fun z => nomatch z
  disp := fun {σ H i Q v k n} e ⟨b, h1, h2⟩ q => .inr fun p hp => ⟨v, e, upd_same, k, b, .int n, by rw [h1], by rw [upd_ne (ne_of_none h2 hp)]; exact h2, by rw [upd_upd]; exact q p hp⟩
  notLst := fun _ _ z => nomatch z
  notTup := fun _ _ z => nomatch z
  notExt := fun _ _ z => nomatch z
section
variable {X : Cx}
theorem pe_or {e : Expr} {t u : TE} (h : PE X e t) (g : PE X e u) : PE X e (fun σ H Q => t σ H Q ∨ u σ H Q) :=
  ⟨fun pins s σ H Q I q => q.elim (h.run pins s σ H Q I) (g.run pins s σ H Q I)⟩
theorem pe_dispT {k v : Expr} {tk tv : TE} {pos : Pos} (hu : X.A.units + 1 < cLine) (hk : PE X k tk) (hv : PE X v tv) : PE X (.Dict [some k] [v] pos) (tDispT tk tv) := by
  refine ⟨fun pins s σ H Q I q => ?_⟩
  have hn := I.hok.fresh (Nat.le_refl s.heap.objs.size)
  have I1 := I.laid (a := s.heap.objs.size) (o := .dT []) (h' := s.heap.push { cls := .type "dict", data := .dict #[] }) (t' := s.toks) (fun _ _ q => Heap.get?_push_of_some _ q) (Nat.le_refl _) (dt_empty s.heap I.big)
  have hp := pps_cons (pos := pos) hk hv (pps_nil (X := X) (pos := pos))
  have hall : ([some k] : List (Option Expr)).all (·.isSome) = true := rfl
  have h0 : pairTrees [some k] [v] X.env pos ≠ [] := fun e => by
    have := pairTrees_length [some k] [v] X.env pos hall rfl
    rw [e] at this
    cases this
  have h15 : (pairTrees [some k] [v] X.env pos).length ≤ 15 := by
    rw [pairTrees_length [some k] [v] X.env pos hall rfl]
    show 1 ≤ 15
    omega
  have hz := zip_pairTrees [some k] [v] X.env pos hall rfl
  rw [PySem.arm_eval_Dict, hz, PySem.dictDisplay_pairs _ h0 (by omega)]
  refine wpAny_bind (wpAny_standAt (wpAny_bind (PySem.wpAny_subDictH (knd := tupleKind (mixKind X.prog X.w)) (show X.A.units < cLine by omega) h15 (thn (hp.run pins _ σ _ _ I1 (q _ hn)) ?_))))
  rintro ws s2 ⟨ps, H2, I2, rel, e, x, b, vx, rfl, eb, q2⟩
  cases rel with
  | @cons _ pq _ _ r0 r1 =>
    cases r1
    obtain ⟨ku, vu⟩ := pq
    obtain ⟨rk, rv⟩ := r0
    have ek : ku = Value.ref b := rk
    subst ek
    obtain ⟨z, hd, xs0, r0, dd⟩ := dt_of I2.hok e
    cases r0
    refine ⟨[(x, b, vu)], ⟨rfl, rfl, key_of I2.hok eb, trivial⟩, dd, fun h' tk' dd' hs => wpAny_pure ⟨.ref s.heap.objs.size, _, ?_, rfl, q2⟩⟩
    obtain ⟨o, es, ep, ho, h2, h3, h4, h5, h6⟩ := dd'
    have nb : b ≠ s.heap.objs.size := ne_of eb e (fun z => nomatch z)
    have new : ObjOk X.prog X.w (L2.upd H2 s.heap.objs.size (.dT [(x, vx)])) h' s.heap.objs.size (.dT [(x, vx)]) := by
      refine ⟨by rw [sizeLine_eq]; show 1 ≤ _; decide, hd, [(x, b, vu)], .cons ⟨rfl, ?_, rv⟩ .nil, o, es, ep, ho, h2, h3, h4, h6⟩
      show L2.upd H2 s.heap.objs.size (.dT [(x, vx)]) b = some (.tup (x.map kV))
      rw [upd_ne nb]
      exact eb
    exact d_write I2 (by rw [e]; exact True.intro) hs ⟨o, ho⟩ new
end
end Vf
set_option Elab.async false
set_option linter.all false
set_option maxRecDepth 100000
set_option maxHeartbeats 4000000
/-! zip of two: lists, tuples, texts in any mix -/
namespace Vf
open PySem L2 PyProof.Rows
inductive Sr where
  | l (a : Addr) | t (a : Addr) | s (z : Str)
def Sr.v : Sr → V
  | .l a => .ref a
  | .t a => .ref a
  | .s z => .str z
def Sr.at_ : Sr → Option Addr
  | .l a => some a
  | .t a => some a
  | .s _ => none
def SrI (K : PySem.W.Frag) (H : Hp) : Sr → List V → Prop
  | .l a, xs => SqL K H a xs
  | .t a, xs => SqT K H a xs
  | .s z, xs => xs = (TL.tl z).map fun c => V.str (sg c)
def SrSt : Sr → Tok → Addr → Nat → Heap → Prop
  | .l a, _, it, i, h => h.IsListIter it a i
  | .t a, _, it, i, h => h.IsTupleIter it a i
  | .s z, t, it, i, h => h.IsStrIter it (strIterType z) z t i
theorem SrI.same {K : PySem.W.Frag} {H H' : Hp} {r : Sr} {xs : List V} (s : Same H H') (h : SrI K H r xs) : SrI K H' r xs := by
  cases r with
  | l a => exact s.seq h
  | t a =>
    have h : SqT K H a xs := h
    rcases h with (h | ⟨o, h⟩) | h
    · exact .inl (.inl (s _ _ h))
    · exact .inl (.inr ⟨o, s _ _ h⟩)
    · exact .inr h
  | s z => exact h
theorem srSt_obj {r : Sr} {t : Tok} {it : Addr} {i : Nat} {h : Heap} (st : SrSt r t it i h) : ∃ o, h.get? it = some o ∧ ∀ v, o.data ≠ .cell v := by
  cases r with
  | l a => obtain ⟨o, e, _, d⟩ := st; exact ⟨o, e, fun v q => by rw [d] at q; cases q⟩
  | t a => obtain ⟨o, e, _, d⟩ := st; exact ⟨o, e, fun v q => by rw [d] at q; cases q⟩
  | s z => obtain ⟨o, e, _, d⟩ := st; exact ⟨o, e, fun v q => by rw [d] at q; cases q⟩
theorem srSt_keep {r : Sr} {t : Tok} {it : Addr} {i : Nat} {h h' : Heap} (st : SrSt r t it i h) (k : ∀ o, h.get? it = some o → h'.get? it = some o) : SrSt r t it i h' := by
  cases r with
  | l a => exact Heap.IsListIter.at st k
  | t a => obtain ⟨o, e, q⟩ := st; exact ⟨o, k o e, q⟩
  | s z => obtain ⟨o, e, q⟩ := st; exact ⟨o, k o e, q⟩
/-- what one draws of it -/
structure Dr (X : Cx) (r : Sr) (t : Tok) (it : Addr) (i : Nat) (xs : List V) (s : Shared) (n : Nat) (P : Nat → Value → Prop) (St : Nat → Heap → Prop) (fp : List Addr) : Prop where
  d : Draws X.prog X.w X.A.in1 it fp n P St
  st : St i s.heap
  n_ : n = xs.length
  p_ : ∀ j v, P j v → ∃ x, xs[j]? = some x ∧ RelV x v
  nx : ∀ h', St (i + 1) h' → SrSt r t it (i + 1) h'
  fp_ : ∀ b ∈ fp, b = it ∨ r.at_ = some b
  mem : it ∈ fp
theorem sr_draw {X : Cx} {pins : List (Addr × Obj)} {σ : L2.St} {H : Hp} {s : Shared} {r : Sr} {t : Tok} {it : Addr} {i : Nat} {xs : List V} (I : Inv X pins σ H s) (hh : X.A.handled = none) (e : SrI X.K H r xs) (st : SrSt r t it i s.heap) (na : ∀ a, r.at_ = some a → a ≠ it) :
    ∃ n P St fp, Dr X r t it i xs s n P St fp := by
  cases r with
  | l a =>
    obtain ⟨its, rv, p, _⟩ := I.list e
    refine ⟨_, _, _, _, ⟨Draws.list (prog := X.prog) (w := X.w) (A := X.A.in1) hh it a (na a rfl) its.toArray, ⟨st, p.isList⟩, by simpa using rv.length.symm, fun j v hv => ?_, fun h' q => q.1, fun b hb => ?_, by simp⟩⟩
    · have hv : its[j]? = some v := by simpa using hv
      have hj : j < xs.length := by
        have := (List.getElem?_eq_some_iff.mp hv).1
        rw [rv.length]; exact this
      obtain ⟨u, hu, ru⟩ := rv.get (List.getElem?_eq_getElem hj)
      rw [hv] at hu; cases hu
      exact ⟨_, List.getElem?_eq_getElem hj, ru⟩
    · simp at hb
      rcases hb with z | z
      · exact .inl z
      · exact .inr (by rw [z]; rfl)
  | t a =>
    obtain ⟨its, rv, p, _⟩ := I.tuple e
    refine ⟨_, _, _, _, ⟨Draws.tuple (prog := X.prog) (w := X.w) (A := X.A.in1) hh it a (na a rfl) its.toArray, ⟨st, p⟩, by simpa using rv.length.symm, fun j v hv => ?_, fun h' q => q.1, fun b hb => ?_, by simp⟩⟩
    · have hv : its[j]? = some v := by simpa using hv
      have hj : j < xs.length := by
        have := (List.getElem?_eq_some_iff.mp hv).1
        rw [rv.length]; exact this
      obtain ⟨u, hu, ru⟩ := rv.get (List.getElem?_eq_getElem hj)
      rw [hv] at hu; cases hu
      exact ⟨_, List.getElem?_eq_getElem hj, ru⟩
    · simp at hb
      rcases hb with z | z
      · exact .inl z
      · exact .inr (by rw [z]; rfl)
  | s z =>
    have e : xs = (TL.tl z).map fun c => V.str (sg c) := e
    refine ⟨_, _, _, _, ⟨Draws.text (prog := X.prog) (w := X.w) (A := X.A.in1) hh it z t, st, by rw [e, List.length_map]; exact TL.len_tl z, fun j v hv => ?_, fun h' q => q, fun b hb => ?_, by simp⟩⟩
    · obtain ⟨c, u, h1, rfl⟩ := hv
      refine ⟨.str (sg c), ?_, ⟨u, rfl⟩⟩
      have h2 : (TL.tl z)[j]? = some c := by simpa using h1
      rw [e, List.getElem?_map, h2]
      rfl
    · simp at hb
      exact .inl hb
theorem sr_inj {X : Cx} {pins : List (Addr × Obj)} {σ : L2.St} {H : Hp} {s : Shared} {r : Sr} {xs ys : List V} (I : Inv X pins σ H s) (e : SrI X.K H r xs) (e2 : SrI X.K H r ys) : xs = ys := by
  cases r with
  | l a => exact I.list_inj e e2
  | t a => exact I.tuple_inj e e2
  | s z => exact Eq.trans e (Eq.symm e2)
def Itzz (K : PySem.W.Frag) (a b : Sr) : It :=
  ⟨fun i H => ∃ xs ys, SrI K H a xs ∧ SrI K H b ys ∧ i < xs.length ∧ i < ys.length,
   fun i H v H' => ∃ T x y, v = .ref T ∧ H T = none ∧ H' = L2.upd H T (.tup [x, y]) ∧ (∀ xs, SrI K H a xs → xs[i]? = some x) ∧ (∀ ys, SrI K H b ys → ys[i]? = some y),
   fun i H => ∃ xs ys, SrI K H a xs ∧ SrI K H b ys ∧ i ≤ xs.length ∧ i ≤ ys.length ∧ (i = xs.length ∨ i = ys.length)⟩
/-- the five cells of a zip, and the two sources, apart -/
structure ZA (z TI TO i1 i2 : Addr) (a b : Sr) : Prop where
  n1 : TI ≠ z
  n2 : TO ≠ z
  n3 : TI ≠ TO
  n4 : TI ≠ i1
  n5 : TI ≠ i2
  n6 : z ≠ i1
  n7 : z ≠ i2
  n8 : TO ≠ i1
  n9 : TO ≠ i2
  n10 : i1 ≠ i2
  a_ : ∀ c, a.at_ = some c → c ≠ z ∧ c ≠ TO ∧ c ≠ i1 ∧ c ≠ i2
  b_ : ∀ c, b.at_ = some c → c ≠ z ∧ c ≠ TO ∧ c ≠ i1 ∧ c ≠ i2
theorem ZA.sep {z TI TO i1 i2 : Addr} {a b : Sr} {fp1 fp2 : List Addr} (D : ZA z TI TO i1 i2 a b) (h1 : ∀ c ∈ fp1, c = i1 ∨ a.at_ = some c) (m1 : i1 ∈ fp1) (h2 : ∀ c ∈ fp2, c = i2 ∨ b.at_ = some c) (m2 : i2 ∈ fp2) : ZipSep2 z TI TO i1 i2 fp1 fp2 := by
  refine ⟨D.n1, D.n2, D.n3, D.n4, m1, fun h => ?_, fun h => ?_, D.n5, m2, fun h => ?_, fun h => ?_, fun h => ?_, fun h => ?_⟩
  · exact (h1 _ h).elim D.n6 fun e => (D.a_ _ e).1 rfl
  · exact (h1 _ h).elim D.n8 fun e => (D.a_ _ e).2.1 rfl
  · exact (h2 _ h).elim D.n7 fun e => (D.b_ _ e).1 rfl
  · exact (h2 _ h).elim D.n9 fun e => (D.b_ _ e).2.1 rfl
  · exact (h2 _ h).elim D.n10 fun e => (D.b_ _ e).2.2.1 rfl
  · exact (h1 _ h).elim (fun q => D.n10 q.symm) fun e => (D.a_ _ e).2.2.2 rfl
theorem turn_zz {P : Program} {w : World} {K : PySem.W.Frag} {elts : List Expr} {kk : Nat} {tpos : Pos} {a b : Sr} {t1 t2 : Tok} {z TI TO i1 i2 : Addr} (D : ZA z TI TO i1 i2 a b) :
    Turn P w K (.Tuple elts kk tpos) (Itzz K a b) [z, TI, TO, i1, i2] z (fun i h => IsZip h z TI TO .none ∧ IsTupOf2 h TI (.ref i1) (.ref i2) ∧ (∃ x y, IsTupOf2 h TO x y) ∧ SrSt a t1 i1 i h ∧ SrSt b t2 i2 i h) where
  mem := by simp
  obj := fun i h st c hc => by
    obtain ⟨hz, hTI, ⟨x, y, hTO⟩, s1, s2⟩ := st
    obtain ⟨o1, e1, d1⟩ := srSt_obj s1
    obtain ⟨o2, e2, d2⟩ := srSt_obj s2
    have e' : c = z ∨ c = TI ∨ c = TO ∨ c = i1 ∨ c = i2 := by simpa using hc
    rcases e' with rfl | rfl | rfl | rfl | rfl
    · exact ⟨_, hz, fun v q => nomatch q⟩
    · exact ⟨_, hTI, fun v q => nomatch q⟩
    · exact ⟨_, hTO, fun v q => nomatch q⟩
    · exact ⟨o1, e1, d1⟩
    · exact ⟨o2, e2, d2⟩
  keep := fun i h h' st k => by
    obtain ⟨hz, hTI, ⟨x, y, hTO⟩, s1, s2⟩ := st
    exact ⟨k z (by simp) _ hz, k TI (by simp) _ hTI, ⟨x, y, k TO (by simp) _ hTO⟩, srSt_keep s1 fun o q => k i1 (by simp) o q, srSt_keep s2 fun o q => k i2 (by simp) o q⟩
  item := by
    intro X hP hw hK hc i pins s σ H E I hf st hg
    subst hP hw hK
    obtain ⟨hz, hTI, ⟨x0, y0, hTO⟩, s1, s2⟩ := st
    obtain ⟨xs, ys, ea, eb, l1, l2⟩ := hg
    have hh := I.ok.hd hc
    obtain ⟨n1, P1, St1, fp1, D1⟩ := sr_draw (t := t1) I hh ea s1 fun c e => (D.a_ c e).2.2.1
    obtain ⟨n2, P2, St2, fp2, D2⟩ := sr_draw (t := t2) I hh eb s2 fun c e => (D.b_ c e).2.2.2
    have hzl : z < s.heap.objs.size := Heap.lt_size hz
    refine wpAny_pyNext_zipD2_item (D.sep D1.fp_ D1.mem D2.fp_ D2.mem) D1.d D2.d hz hTI hTO D1.st D2.st (by rw [D1.n_]; exact l1) (by rw [D2.n_]; exact l2) fun u u2 h' tk p1 p2 z' TO' h1' h2' hT hsz hk => ?_
    obtain ⟨x, hx, ru⟩ := D1.p_ _ _ p1
    obtain ⟨y, hy, ru2⟩ := D2.p_ _ _ p2
    refine ⟨_, rfl, wpAny_letOwnedTupleGo_zip (s := { s with heap := h', toks := tk }) z' fun h'' z'' sb => ?_⟩
    have hT2 : h''.get? s.heap.objs.size = some { cls := .type "tuple", data := .seq #[u, u2] } := (sb.2 _ (Nat.ne_of_gt hzl)).trans hT
    have new : ObjOk X.prog X.w (L2.upd H s.heap.objs.size (.tup [x, y])) h'' s.heap.objs.size (.tup [x, y]) :=
      ⟨by show 2 ≤ sizeLine; decide, [u, u2], .cons ru (.cons ru2 .nil), ⟨_, hT2, rfl, _, rfl⟩⟩
    have I1 : Inv X pins σ (L2.upd H s.heap.objs.size (.tup [x, y])) { s with heap := h'', toks := tk } :=
      I.turnedNew (t' := tk) (ch := [z, TI, TO, i1, i2]) (fun c o hb q => (sb.2 c (fun q' => hb (by simp [q']))).trans (hk c o (fun q' => hb (by simp [q'])) (fun q' => hb (by simp [q'])) (fun q' => hb (by simp [q'])) (fun q' => hb (by simp [q'])) q)) hf (Nat.le_refl _) new
    have kTI : h'.get? TI = some { cls := .type "tuple", data := .seq #[.ref i1, .ref i2] } := hk _ _ D.n1 D.n3 D.n4 D.n5 hTI
    refine ⟨.ref s.heap.objs.size, _, I1, rfl, ⟨_, x, y, rfl, I.hok.fresh (Nat.le_refl _), rfl, fun l hl => by rw [sr_inj I hl ea]; exact hx, fun l hl => by rw [sr_inj I hl eb]; exact hy⟩, ⟨z'', (sb.2 _ D.n1).trans kTI, ⟨u, u2, (sb.2 _ D.n2).trans TO'⟩, srSt_keep (D1.nx _ h1') fun o q => (sb.2 _ D.n6.symm).trans q, srSt_keep (D2.nx _ h2') fun o q => (sb.2 _ D.n7.symm).trans q⟩, fun c hcm => ?_⟩
    obtain ⟨o1, e1, _⟩ := srSt_obj s1
    obtain ⟨o2, e2, _⟩ := srSt_obj s2
    have hlt : c < s.heap.objs.size := by
      have e' : c = z ∨ c = TI ∨ c = TO ∨ c = i1 ∨ c = i2 := by simpa using hcm
      rcases e' with rfl | rfl | rfl | rfl | rfl
      · exact hzl
      · exact Heap.lt_size hTI
      · exact Heap.lt_size hTO
      · exact Heap.lt_size e1
      · exact Heap.lt_size e2
    rw [upd_ne (Nat.ne_of_lt hlt)]
    exact (hf c hcm).1
  done := by
    intro X hP hw hK hc i pins s σ H E I hf st hg
    subst hP hw hK
    obtain ⟨hz, hTI, ⟨x0, y0, hTO⟩, s1, s2⟩ := st
    obtain ⟨xs, ys, ea, eb, l1, l2, hend⟩ := hg
    have hh := I.ok.hd hc
    obtain ⟨n1, P1, St1, fp1, D1⟩ := sr_draw (t := t1) I hh ea s1 fun c e => (D.a_ c e).2.2.1
    obtain ⟨n2, P2, St2, fp2, D2⟩ := sr_draw (t := t2) I hh eb s2 fun c e => (D.b_ c e).2.2.2
    refine wpAny_pyNext_zipD2_end (D.sep D1.fp_ D1.mem D2.fp_ D2.mem) D1.d D2.d hz hTI hTO D1.st D2.st (by rw [D1.n_]; exact l1) (by rw [D2.n_]; exact l2) (by rw [D1.n_, D2.n_]; exact hend) fun h' tk hk => ⟨rfl, ?_⟩
    exact I.turnedL (t' := tk) (ch := [z, TI, TO, i1, i2]) (fun c o hb q => hk c o (fun q' => hb (by simp [q'])) (fun q' => hb (by simp [q'])) (fun q' => hb (by simp [q'])) (fun q' => hb (by simp [q'])) q) hf
  self := fun A i s Q E st h => wpAny_pyIter_zip st.1 h
def iZz (K : PySem.W.Frag) (ta : TA) : TI := fun σ H R => ta σ H fun vs H1 => ∃ a b xs ys, vs = [a.v, b.v] ∧ SrI K H1 a xs ∧ SrI K H1 b ys ∧ R (Itzz K a b) H1
theorem sr_begin {X : Cx} {pins : List (Addr × Obj)} {σ : L2.St} {H : Hp} {s : Shared} {r : Sr} {xs : List V} {u : Value} (I : Inv X pins σ H s) (e : SrI X.K H r xs) (ru : RelV r.v u) :
    ∃ (o : Obj) (Hq : Heap → Prop) (t : Tok), Begins u o Hq ∧ Hq s.heap ∧ (∀ it h, h.get? it = some o → SrSt r t it 0 h) ∧ ∀ a, r.at_ = some a → a < s.heap.objs.size := by
  cases r with
  | l a =>
    obtain ⟨its, rv, p, _⟩ := I.list e
    obtain rfl : u = Value.ref a := ru
    refine ⟨_, _, 0, begins_list a its.toArray, p.isList, fun it h q => ⟨_, q, rfl, rfl⟩, fun b hb => ?_⟩
    cases hb
    exact p.lt
  | t a =>
    obtain ⟨its, rv, p, _⟩ := I.tuple e
    obtain rfl : u = Value.ref a := ru
    refine ⟨_, _, 0, begins_tuple a its.toArray, p, fun it h q => ⟨_, q, rfl, rfl⟩, fun b hb => ?_⟩
    cases hb
    exact p.lt
  | s z =>
    obtain ⟨t, rfl⟩ := ru
    exact ⟨_, _, t, begins_text z t, trivial, fun it h q => ⟨_, q, rfl, rfl⟩, fun b hb => nomatch hb⟩
theorem pi_zz {X : Cx} {e e2 : Expr} {ta : TA} {p pos tpos : Pos} {elts : List Expr} {kk : Nat} (hg : Gl X "zip") (hm : X.mg "zip" = none) (ha : PA X [e, e2] ta)
    (hs : starEach [e, e2] X.env = (false, eval e X.env) :: starEach [e2] X.env := by rfl) (hpl : (backTo pos (starEach [e2] X.env)).any (·.1) = false := by rfl) :
    PI X (.Tuple elts kk tpos) (.Call (.Name "zip" p) [e, e2] [] pos) (iZz X.K ta) := by
  refine ⟨fun pins s σ H R I h => ?_⟩
  refine Call_ (ld_blt I hg hm PyProof.Rows.boot_zip (PyProof.Rows.callWith_type1 (thn (ha.run pos pins s σ H _ I h) fun us s1 ⟨vs, H1, I1, r1, q1⟩ => ?_) hs hpl))
  obtain ⟨a, b, xs, ys, ex, ea, eb, q⟩ := q1
  subst ex
  cases r1 with
  | @cons _ u _ _ r rr =>
    cases rr with
    | @cons _ u2 _ _ r' rr =>
      cases rr
      obtain ⟨o1, H1q, t1, B1, h1, k1, la⟩ := sr_begin I1 ea r
      obtain ⟨o2, H2q, t2, B2, h2, k2, lb⟩ := sr_begin I1 eb r'
      refine zip_begins2 B1 B2 h1 h2 fun h' hz hTI hTO g1 g2 hsz hk => wpAny_pyIter_zip hz ?_
      have I2 : Inv X pins σ H1 { s1 with heap := h' } := I1.kept (t' := s1.toks) hk
      generalize hN : s1.heap.objs.size = N at *
      have D : ZA (N + 4) (N + 2) (N + 3) N (N + 1) a b := ⟨by simp, by simp, by simp, by simp, by simp, by simp, by simp, by simp, by simp, by simp,
        fun c e => by have := la c e; exact ⟨by intro z; subst z; exact absurd this (by simp), by intro z; subst z; exact absurd this (by simp), by intro z; subst z; exact absurd this (by simp), by intro z; subst z; exact absurd this (by simp)⟩,
        fun c e => by have := lb c e; exact ⟨by intro z; subst z; exact absurd this (by simp), by intro z; subst z; exact absurd this (by simp), by intro z; subst z; exact absurd this (by simp), by intro z; subst z; exact absurd this (by simp)⟩⟩
      refine ⟨N + 4, [N + 4, N + 2, N + 3, N, N + 1], _, _, H1, rfl, I2, turn_zz (t1 := t1) (t2 := t2) D, ⟨hz, hTI, ⟨_, _, hTO⟩, k1 _ _ g1, k2 _ _ g2⟩, fun c hcm => ?_, q⟩
      have hle : s1.heap.objs.size ≤ c := by
        rw [hN]
        have e' : c = N + 4 ∨ c = N + 2 ∨ c = N + 3 ∨ c = N ∨ c = N + 1 := by simpa using hcm
        rcases e' with rfl | rfl | rfl | rfl | rfl <;> simp
      exact I1.fpOk hle (I1.hok.fresh hle)
/-- as a walk: both stand still -/
theorem walk_zz {K : PySem.W.Frag} {a b : Sr} {xs ys : List V} {n : Nat} (hn : n = min xs.length ys.length) :
    Walk (Itzz K a b) n (fun H => SrI K H a xs ∧ SrI K H b ys) (fun i H v H' => ∃ T x y, v = .ref T ∧ H T = none ∧ H' = L2.upd H T (.tup [x, y]) ∧ xs[i]? = some x ∧ ys[i]? = some y) :=
  ⟨fun i H hi g => ⟨xs, ys, g.1, g.2, by omega, by omega⟩, fun H g => ⟨xs, ys, g.1, g.2, by omega, by omega, by omega⟩, fun i H v H' hi g y => by
    obtain ⟨T, x, y, e1, e2, e3, h1, h2⟩ := y
    exact ⟨T, x, y, e1, e2, e3, h1 _ g.1, h2 _ g.2⟩⟩
end Vf
set_option Elab.async false
set_option linter.all false
set_option maxRecDepth 100000
set_option maxHeartbeats 4000000
/-! what stays where functions are made and cells are shown -/
namespace Vf
open PySem L2 PyProof.Rows NdefX LamX
theorem same_shw {cs : Cs} {H : Hp} (hn : ∀ c o, cs.lookup c = some o → H c = none) : Same H (shw cs H) := fun b u e => by
  cases q : cs.lookup b with
  | some y => rw [hn b y q] at e; cases e
  | none => rw [shw_out q]; exact e
theorem same_hid {cs : Cs} {H1 H2 : Hp} (hn : ∀ c o, cs.lookup c = some o → H1 c = none) (s : Same (shw cs H1) H2) : Same H1 (hid cs H2) := fun b u e => by
  cases q : cs.lookup b with
  | some y => rw [hn b y q] at e; cases e
  | none =>
    rw [hid_out q]
    exact s b u (by rw [shw_out q]; exact e)
theorem held_same {cs : Cs} {H1 H2 : Hp} (s : Same (shw cs H1) H2) : HeldC cs H2 := fun c o e => s _ _ (shw_in e)
theorem same_up {cs : Cs} {H H' : Hp} (hc : HeldC cs H) (s : Same (hid cs H) H') : Same H (shw cs H') := fun b u e => by
  cases q : cs.lookup b with
  | some y =>
    rw [hc b y q] at e
    rw [shw_in q]; exact e
  | none =>
    rw [shw_out q]
    exact s b u (by rw [hid_out q]; exact e)
/-- what is no cell is not hidden -/
theorem hid_keep {cs : Cs} {H : Hp} {b : Addr} {u : HO} (hc : HeldC cs H) (e : H b = some u) (n : ∀ φ, u ≠ .ext φ) : hid cs H b = some u := by
  rw [hid_out (hc.out e fun x z => n _ z)]; exact e
theorem shw_keep {cs : Cs} {H : Hp} {b : Addr} {u : HO} (hn : ∀ c o, cs.lookup c = some o → H c = none) (e : H b = some u) : shw cs H b = some u := same_shw hn _ _ e
theorem hid_shw {cs : Cs} {H : Hp} (hn : ∀ c o, cs.lookup c = some o → H c = none) : hid cs (shw cs H) = H := by
  funext b
  cases q : cs.lookup b with
  | some y => rw [hid_in q, hn b y q]
  | none => rw [hid_out q, shw_out q]
/-- it stays true where all stays but tables -/
def Stab (S : Hp → Prop) : Prop := ∀ H H' : Hp, S H → ExtN H H' → S H'
theorem Stab.same {S : Hp → Prop} (h : Stab S) {H H' : Hp} (s : Same H H') (q : S H) : S H' := h H H' q (ExtN.of fun b o e => s b o e)
theorem Stab.and {S S' : Hp → Prop} (h : Stab S) (h' : Stab S') : Stab fun H => S H ∧ S' H := fun H H' q k => ⟨h H H' q.1 k, h' H H' q.2 k⟩
theorem Stab.hid {S : Hp → Prop} (h : Stab S) (cs : Cs) : Stab fun H => S (Vf.hid cs H) := fun H H' q k => h _ _ q fun b o e n => by
  obtain ⟨q1, q2⟩ := hid_some e
  rw [hid_out q1]; exact k b o q2 n
theorem stab_heldF (f : Addr) (F : NF) (cs : Cs) : Stab (HeldF f F cs) := fun H H' q k => ⟨k _ _ q.fn (fun _ z => nomatch z), k _ _ q.code (fun _ z => nomatch z), fun c o e => k _ _ (q.cells c o e) (fun _ z => nomatch z)⟩
theorem stab_heldL (f : Addr) (F : NF) (e : Expr) (cs : Cs) : Stab (HeldL f F e cs) := fun H H' q k => ⟨k _ _ q.fn (fun _ z => nomatch z), k _ _ q.code (fun _ z => nomatch z), fun c o e => k _ _ (q.cells c o e) (fun _ z => nomatch z)⟩
theorem stab_true : Stab fun _ => True := fun _ _ _ _ => trivial
theorem stab_at (a : Addr) (o : HO) (n : ∀ ps, o ≠ .tbl ps) : Stab fun H => H a = some o := fun H H' q k => k a o q n
/-- all stays but the tables of code objects, and these stay tables -/
structure SameT (T : List NTab) (H H' : Hp) : Prop where
  ext : ExtN H H'
  back : ∀ b, H' b = none → H b = none
  tab : TabsN T H'
theorem SameT.of {T : List NTab} {H H' : Hp} (s : Same H H') (t : TabsN T H) : SameT T H H' := ⟨fun b o e _ => s b o e, fun b e => s.free e, t.ext fun b o e => s b o e⟩
theorem SameT.trans {T : List NTab} {H H1 H2 : Hp} (a : SameT T H H1) (b : SameT T H1 H2) : SameT T H H2 := ⟨a.ext.trans b.ext, fun c e => a.back c (b.back c e), b.tab⟩
theorem SameT.stab {T : List NTab} {H H' : Hp} {S : Hp → Prop} (s : SameT T H H') (h : Stab S) (q : S H) : S H' := h H H' q s.ext
theorem SameT.at_ {T : List NTab} {H H' : Hp} {κ : Type} [DecidableEq κ] {kd : Kd κ} {v : V} {k : κ} (s : SameT T H H') (h : kd.at_ H v k) : kd.at_ H' v k := kd.keep h fun b xs e => s.ext _ _ e fun _ z => nomatch z
theorem SameT.kl {T : List NTab} {H H' : Hp} (s : SameT T H H') : Kl H H' := fun b o e d => s.ext b o e fun ps z => by rw [z] at d; exact d
theorem kd_hid {κ : Type} [DecidableEq κ] {kd : Kd κ} {cs : Cs} {H : Hp} {v : V} {k : κ} (hc : HeldC cs H) (h : kd.at_ H v k) : kd.at_ (hid cs H) v k := kd.keep h fun b xs e => hid_keep hc e fun _ z => nomatch z
theorem kd_shw {κ : Type} [DecidableEq κ] {kd : Kd κ} {cs : Cs} {H : Hp} {v : V} {k : κ} (hn : ∀ c o, cs.lookup c = some o → H c = none) (h : kd.at_ H v k) : kd.at_ (shw cs H) v k := kd.keep h fun b xs e => shw_keep hn e
/-- a cell is no code object -/
theorem cellX_code {c : Addr} {o : Obj} {q : Str} {v : Option Value} (hd : o.data = .cell v) : CellX c o ≠ CodeO c q := fun z => by
  unfold CellX CodeO at z
  have z2 := HO.ext.inj z
  have e : ({ objs := Array.replicate (c + 1) o } : Heap).get? c = some o := by
    unfold Heap.get?
    have : (Array.replicate (c + 1) o)[c]? = some o := by simp
    rw [this]
    obtain ⟨a, b, d, sl⟩ := o
    have hd : d = .cell v := hd
    subst hd
    rfl
  have h1 := congrFun z2 ({ objs := Array.replicate (c + 1) o } : Heap)
  have h2 : ∃ (oc : Obj) (vs : Array Value) (t : Tok), ({ objs := Array.replicate (c + 1) o } : Heap).get? c = some oc ∧ oc.data = .fields vs ∧ vs[1]? = some (.str q t) := by
    rw [← h1]; exact e
  obtain ⟨oc, vs, t, a1, a2, a3⟩ := h2
  rw [e] at a1
  cases a1
  rw [hd] at a2
  cases a2
def CellsData (cs : Cs) : Prop := ∀ c o, cs.lookup c = some o → ∃ v, o.data = .cell v
theorem CapX.data {X : Cx} {σ : L2.St} {cs : Cs} (h : CapX X σ cs) : CellsData cs := fun c o e => (h.dom c o e).1
theorem tabs_hid {T : List NTab} {cs : Cs} {H : Hp} (hd : CellsData cs) (hc : HeldC cs H) (t : TabsN T H) : TabsN T (hid cs H) := fun p hp => by
  obtain ⟨ps, h1, h2, h3⟩ := t p hp
  refine ⟨ps, hid_keep hc h1 (fun _ z => nomatch z), h2, fun pos cv e => ?_⟩
  obtain ⟨c, e1, e2⟩ := h3 pos cv e
  refine ⟨c, e1, ?_⟩
  cases q : cs.lookup c with
  | none => rw [hid_out q]; exact e2
  | some o =>
    obtain ⟨v, hv⟩ := hd c o q
    rw [hc c o q] at e2
    exact absurd (Option.some.inj e2) (cellX_code hv)
theorem sameT_hid {T : List NTab} {cs : Cs} {H1 H2 : Hp} (hd : CellsData cs) (hn : ∀ c o, cs.lookup c = some o → H1 c = none) (s : SameT T (shw cs H1) H2) : HeldC cs H2 ∧ SameT T H1 (hid cs H2) := by
  have hh : HeldC cs H2 := fun c o e => s.ext _ _ (shw_in e) fun _ z => nomatch z
  refine ⟨hh, fun b u e n => ?_, fun b e => ?_, tabs_hid hd hh s.tab⟩
  · cases q : cs.lookup b with
    | some y => rw [hn b y q] at e; cases e
    | none =>
      rw [hid_out q]
      exact s.ext b u (by rw [shw_out q]; exact e) n
  · cases q : cs.lookup b with
    | some y => exact hn b y q
    | none =>
      rw [hid_out q] at e
      have := s.back b e
      rw [shw_out q] at this
      exact this
theorem kl_hid {cs : Cs} {H : Hp} (hc : HeldC cs H) : Kl H (hid cs H) := fun b o e d => hid_keep hc e fun φ z => by rw [z] at d; exact d
/-- all that the nested one captures are cells of the def -/
def cellsB (sc nsc : Scope) : Bool := nsc.names.all fun y => !decide (y.2 = .free) || decide (sc.names.lookup y.1 = some .cell)
theorem cells_free {sc nsc : Scope} (h : cellsB sc nsc = true) : ∀ y ∈ nsc.names, y.2 = .free → sc.names.lookup y.1 = some .cell := fun y hy e => by
  have := List.all_eq_true.mp h y hy
  rw [e] at this
  simpa using this
theorem tup_hid {cs : Cs} {H : Hp} {b : Addr} {xs : List V} (hc : HeldC cs H) (e : H b = some (.tup xs)) : hid cs H b = some (.tup xs) := hid_keep hc e fun _ z => nomatch z
theorem lst_hid {cs : Cs} {H : Hp} {b : Addr} {xs : List V} (hc : HeldC cs H) (e : H b = some (.lst xs)) : hid cs H b = some (.lst xs) := hid_keep hc e fun _ z => nomatch z
def Forall2 {α β : Type} (R : α → β → Prop) (xs : List α) (ys : List β) : Prop := xs.length = ys.length ∧ ∀ (i : Nat) (x : α) (y : β), xs[i]? = some x → ys[i]? = some y → R x y
theorem Forall2.snoc {α β : Type} {R : α → β → Prop} {xs : List α} {ys : List β} {x : α} {y : β} (h : Forall2 R xs ys) (g : R x y) : Forall2 R (xs ++ [x]) (ys ++ [y]) := by
  obtain ⟨h1, h2⟩ := h
  refine ⟨by simp [h1], fun i a b e1 e2 => ?_⟩
  by_cases hi : i < xs.length
  · rw [List.getElem?_append_left hi] at e1
    rw [List.getElem?_append_left (by omega)] at e2
    exact h2 i a b e1 e2
  · rw [List.getElem?_append_right (by omega)] at e1
    rw [List.getElem?_append_right (by omega)] at e2
    have : i - xs.length = 0 := by
      cases q : i - xs.length with
      | zero => rfl
      | succ n => rw [q] at e1; cases e1
    rw [this] at e1
    have h3 : i - ys.length = 0 := by omega
    rw [h3] at e2
    cases e1; cases e2
    exact g
theorem Forall2.imp {α β : Type} {R S : α → β → Prop} {xs : List α} {ys : List β} (h : Forall2 R xs ys) (g : ∀ x y, x ∈ xs → R x y → S x y) : Forall2 S xs ys := ⟨h.1, fun i x y e1 e2 => g x y (List.mem_of_getElem? e1) (h.2 i x y e1 e2)⟩
theorem Forall2.get {α β : Type} {R : α → β → Prop} {xs : List α} {ys : List β} (h : Forall2 R xs ys) {i : Nat} {y : β} (e : ys[i]? = some y) : ∃ x, xs[i]? = some x ∧ R x y := by
  have hi : i < xs.length := by rw [h.1]; exact (List.getElem?_eq_some_iff.mp e).1
  exact ⟨_, List.getElem?_eq_getElem hi, h.2 i _ y (List.getElem?_eq_getElem hi) e⟩
end Vf
set_option Elab.async false
set_option linter.all false
set_option maxRecDepth 100000
set_option maxHeartbeats 4000000
/-! walks of a column over a code's rows -/
namespace Vf
open PySem L2 PyProof.Rows
theorem take_more {α : Type} {l : List α} {i : Nat} (h : i < l.length) : l.take (i + 1) = l.take i ++ [l[i]] := by
  rw [List.take_add_one, List.getElem?_eq_getElem h]; rfl
/-- what a column leaves: the state and the bits, by the rows -/
def stepR (rs : List Row) (z : List Nat) (s : Int × Int) (c : Nat) : Int × Int :=
  let gb := ((rs.getD s.1.toNat []).getD (z.idxOf c) (0, 0))
  (gb.1, s.2 + gb.2)
def walkR (rs : List Row) (z : List Nat) (s : Int) (y : List Nat) : Int × Int := y.foldl (stepR rs z) (s, 0)
theorem walkR_more {rs : List Row} {z y : List Nat} {s : Int} {i : Nat} (h : i < y.length) : walkR rs z s (y.take (i + 1)) = stepR rs z (walkR rs z s (y.take i)) y[i] := by
  unfold walkR
  rw [take_more h, List.foldl_append]
  rfl
/-- states stay states, bits grow -/
structure GoodS (m : Nat) (rs : List Row) : Prop where
  row : ∀ r ∈ rs, r.length = m ∧ ∀ gb ∈ r, 0 ≤ gb.1 ∧ gb.1 < rs.length
theorem Good.s {m : Nat} {rs : List Row} {es : List Int} (g : Good m rs es) : GoodS m rs := ⟨fun r hr => ⟨(g.row r hr).1, fun gb h => ⟨((g.row r hr).2 gb h).1, ((g.row r hr).2 gb h).2.1⟩⟩⟩
theorem at_row {m : Nat} {rs : List Row} (g : GoodS m rs) {s : Int} {j : Nat} (h0 : 0 ≤ s) (h1 : s < rs.length) (hj : j < m) :
    ∃ (h : s.toNat < rs.length) (h' : j < rs[s.toNat].length), (rs.getD s.toNat []).getD j (0, 0) = rs[s.toNat][j] ∧ 0 ≤ (rs[s.toNat][j]).1 ∧ (rs[s.toNat][j]).1 < rs.length := by
  have h : s.toNat < rs.length := by omega
  have hr := g.row rs[s.toNat] (List.getElem_mem h)
  have h' : j < rs[s.toNat].length := by rw [hr.1]; exact hj
  refine ⟨h, h', ?_, hr.2 _ (List.getElem_mem h')⟩
  rw [List.getD_eq_getElem?_getD, List.getD_eq_getElem?_getD, List.getElem?_eq_getElem h, Option.getD_some, List.getElem?_eq_getElem h', Option.getD_some]
theorem idx_lt {z : List Nat} {c : Nat} (h : c ∈ z) : z.idxOf c < z.length := List.idxOf_lt_length_iff.mpr h
theorem walkR_ok {m : Nat} {rs : List Row} {z y : List Nat} {s : Int} (g : GoodS m rs) (hz : z.length = m) (h0 : 0 ≤ s) (h1 : s < rs.length) (hy : ∀ c ∈ y, c ∈ z) : ∀ i, i ≤ y.length → 0 ≤ (walkR rs z s (y.take i)).1 ∧ (walkR rs z s (y.take i)).1 < rs.length
  | 0, _ => by rw [List.take_zero]; exact ⟨h0, h1⟩
  | i + 1, hi => by
    have ih := walkR_ok (y := y) g hz h0 h1 hy i (by omega)
    have hi' : i < y.length := by omega
    rw [walkR_more hi']
    have hc : z.idxOf y[i] < m := by rw [← hz]; exact idx_lt (hy _ (List.getElem_mem hi'))
    obtain ⟨h, h', e, a, b⟩ := at_row g ih.1 ih.2 hc
    unfold stepR
    simp only [e]
    exact ⟨a, b⟩
/-- a column's length, by the rows and the ends -/
def lenR (rs : List Row) (es : List Int) (z : List Nat) (y : List Nat) : Int := (walkR rs z 0 y).2 + es.getD (walkR rs z 0 y).1.toNat 0
end Vf
set_option Elab.async false
set_option linter.all false
set_option maxRecDepth 100000
set_option maxHeartbeats 4000000
namespace Vf
open PySem L2 PyProof.Rows
section
variable {P : Program} {w : World} {K : PySem.W.Frag} {mg : Str → Option Value} {base : Heap}
structure TxtN (K : PySem.W.Frag) (mg : Str → Option Value) : Prop where
  enumerate : mg "enumerate" = none
/-- the first place of a sign of y that is none of z's -/
def strange (z y : Str) : Option Nat := (TL.tl y).findIdx? fun c => decide (c ∉ TL.tl z)
def spStrange : Sp := fun vs H Q _ => ∃ z y : Str, vs = [.str z, .str y] ∧ ∀ H', Same H H' → Q (match strange z y with | none => .non | some i => .int i) H'
abbrev s_strange_place : Stmt := top 7
abbrev N_strange_place : List Str := ["letters", "text", "place", "letter"]
abbrev P_strange_place : List Str := ["letters", "text"]
theorem sc_strange_place : FnScope N_strange_place P_strange_place (defScope s_strange_place) := ⟨rfl, rfl, rfl, by decide +kernel, rfl, by decide +kernel, by decide +kernel⟩

theorem ok_strange {f : Addr} {fd : FuncData} (F : Fun K "strange_place" "strange_place" s_strange_place f fd) (T : TxtN K mg) : FnOk P w K mg base CX0 1 f fd P_strange_place spStrange := by
  refine F.ok sc_strange_place (fun vs H Q E h => ?_) (fun cdv A outer s H vs Q E hr h => ?_)
  · obtain ⟨z, y, rfl, _⟩ := h
    rfl
  · obtain ⟨z, y, rfl, k⟩ := h
    refine ⟨_, (pss_cons (ps_for PassesOwn.never rfl (pi_enumS (by rfl) T.enumerate (pa_cons (pv 1) pa_nil)) (pg_tup (by rfl) (pgs_cons (pg_name (i := 2) sc_strange_place.nd rfl (Or.inl rfl)) (pgs_cons (pg_name (i := 3) sc_strange_place.nd rfl (Or.inl rfl)) pgs_nil))) (pss_one (ps_if (pt_cmpR op_notIn_sign (pv 3) (pv 0) (by rfl)) (pss_one (ps_ret (pv 2))) pss_nil)))
      (pss_one (ps_ret pe_non))), ?_⟩
    refine ⟨_, rfl, y, rfl, for_it walk_enumS (fun i σ H1 => ∃ v2 v3 : Option V, σ = [some (.str z), some (.str y), v2, v3] ∧ Same H H1 ∧ ∀ j c, j < i → (TL.tl y)[j]? = some c → c ∈ TL.tl z)
      ⟨none, none, rfl, Same.refl H, fun j c h => absurd h (Nat.not_lt_zero _)⟩ (fun _ _ _ _ _ => trivial) ?_ ?_⟩
    · rintro i x σ H1 H2 hi ⟨v2, v3, rfl, s1, hj⟩ ⟨q, c, rfl, hq, rfl, hc⟩
      refine ⟨q, _, rfl, SqT.of upd_same, rfl, _, _, rfl, _, _, rfl, rfl, _, rfl, _, rfl, c, z, rfl, rfl, _, rfl, ite2 (fun h1 => ?_) (fun h1 => ?_)⟩
      · have h1 : c ∉ TL.tl z := by simpa using h1
        refine ⟨_, rfl, ?_⟩
        have e : strange z y = some i := by
          obtain ⟨hlt, he⟩ := List.getElem?_eq_some_iff.mp hc
          refine List.findIdx?_eq_some_iff_getElem.mpr ⟨hlt, by simp [he, h1], fun j hji => ?_⟩
          have := hj j _ hji (List.getElem?_eq_getElem (by omega))
          simpa using this
        have := k _ (s1.trans (same_new (o := .tup [.int (i : Nat), .str (sg c)]) hq))
        rw [e] at this
        exact this
      · have h1 : c ∈ TL.tl z := by simpa using h1
        refine ⟨_, _, rfl, s1.trans (same_new hq), fun j d h2 h3 => ?_⟩
        by_cases e : j = i
        · rw [e, hc] at h3
          rw [← Option.some.inj h3]; exact h1
        · exact hj j d (by omega) h3
    · rintro σ H1 ⟨v2, v3, rfl, s1, hj⟩
      have e : strange z y = none := by
        refine List.findIdx?_eq_none_iff.mpr fun c hc => ?_
        obtain ⟨j, hlt, he⟩ := List.getElem_of_mem hc
        have := hj j c (by rw [TL.len_tl]; exact hlt) (by rw [List.getElem?_eq_getElem hlt, he])
        simp [this]
      have := k _ s1
      rw [e] at this
      exact this
end
end Vf
set_option Elab.async false
set_option linter.all false
set_option maxRecDepth 100000
set_option maxHeartbeats 4000000
/-! equal data of codes -/
namespace Vf
open PySem L2 PyProof.Rows
theorem eqvAll_inj {α : Type} [DecidableEq α] {f : α → PyData} (h : ∀ x y, PyData.eqv (f x) (f y) = decide (x = y)) : ∀ xs ys : List α, PyData.eqvAll (xs.map f) (ys.map f) = decide (xs = ys)
  | [], [] => by simp [PyData.eqvAll]
  | [], _ :: _ => by simp [PyData.eqvAll]
  | _ :: _, [] => by simp [PyData.eqvAll]
  | x :: r, y :: t => by
    simp only [List.map_cons, PyData.eqvAll, h, eqvAll_inj h r t]
    rw [Bool.eq_iff_iff]
    simp
theorem eqv_int (x y : Int) : PyData.eqv (.int x) (.int y) = decide (x = y) := by
  rw [Bool.eq_iff_iff]; simp [PyData.eqv]
theorem eqv_tupD (x y : Int × Int) : PyData.eqv (tupD x) (tupD y) = decide (x = y) := by
  obtain ⟨a, b⟩ := x
  obtain ⟨c, d⟩ := y
  rw [Bool.eq_iff_iff]
  simp [tupD, PyData.eqv, PyData.eqvAll]
theorem eqv_rowT (x y : Row) : PyData.eqv (rowT x) (rowT y) = decide (x = y) := by
  show PyData.eqv (.tuple (x.map tupD)) (.tuple (y.map tupD)) = _
  rw [PyData.eqv]; exact eqvAll_inj eqv_tupD x y
theorem eqv_rowD (x y : Row) : PyData.eqv (rowD x) (rowD y) = decide (x = y) := by
  show PyData.eqv (.list (x.map tupD)) (.list (y.map tupD)) = _
  rw [PyData.eqv]; exact eqvAll_inj eqv_tupD x y
theorem eqv_rowsT (x y : List Row) : PyData.eqv (rowsT x) (rowsT y) = decide (x = y) := by
  show PyData.eqv (.tuple (x.map rowT)) (.tuple (y.map rowT)) = _
  rw [PyData.eqv]; exact eqvAll_inj eqv_rowT x y
theorem eqv_rowsD (x y : List Row) : PyData.eqv (rowsD x) (rowsD y) = decide (x = y) := by
  show PyData.eqv (.list (x.map rowD)) (.list (y.map rowD)) = _
  rw [PyData.eqv]; exact eqvAll_inj eqv_rowD x y
theorem eqv_intsT (x y : List Int) : PyData.eqv (intsT x) (intsT y) = decide (x = y) := by
  show PyData.eqv (.tuple (x.map PyData.int)) (.tuple (y.map PyData.int)) = _
  rw [PyData.eqv]; exact eqvAll_inj eqv_int x y
theorem eqv_intsD (x y : List Int) : PyData.eqv (intsD x) (intsD y) = decide (x = y) := by
  show PyData.eqv (.list (x.map PyData.int)) (.list (y.map PyData.int)) = _
  rw [PyData.eqv]; exact eqvAll_inj eqv_int x y
theorem lay_all {α : Type} {f : α → PyData} (h : ∀ x, PyData.canLay0 (f x) = true) : ∀ xs : List α, PyData.canLayAll0 (xs.map f) = true
  | [] => by simp [PyData.canLayAll0]
  | x :: r => by simp [PyData.canLayAll0, h x, lay_all h r]
theorem depth_all {α : Type} {f : α → PyData} {n : Nat} (h : ∀ x, PyData.depth (f x) ≤ n) : ∀ xs : List α, PyData.depthAll (xs.map f) ≤ n
  | [] => by simp [PyData.depthAll]
  | x :: r => by rw [List.map_cons, PyData.depthAll]; exact Nat.max_le.mpr ⟨h x, depth_all h r⟩
theorem lay_tupD (x : Int × Int) : PyData.canLay0 (tupD x) = true := by simp [tupD, PyData.canLay0, PyData.canLayAll0]
theorem dep_tupD (x : Int × Int) : PyData.depth (tupD x) ≤ 1 := by simp [tupD, PyData.depth, PyData.depthAll]
theorem shaped_of {d : PyData} {n : Nat} (h : d.canLay0 = true) (hd : d.depth ≤ n) (hn : n ≤ 64) : SeqAt.shaped d = true := by
  unfold SeqAt.shaped
  rw [h, Bool.true_and]
  exact decide_eq_true (Nat.le_trans hd hn)
theorem lay_rowT (x : Row) : PyData.canLay0 (rowT x) = true := by rw [rowT, PyData.canLay0]; exact lay_all lay_tupD x
theorem lay_rowD (x : Row) : PyData.canLay0 (rowD x) = true := by rw [rowD, PyData.canLay0]; exact lay_all lay_tupD x
theorem dep_rowT (x : Row) : PyData.depth (rowT x) ≤ 2 := by rw [rowT, PyData.depth]; have := depth_all dep_tupD x; omega
theorem dep_rowD (x : Row) : PyData.depth (rowD x) ≤ 2 := by rw [rowD, PyData.depth]; have := depth_all dep_tupD x; omega
theorem lay_rowsT (x : List Row) : PyData.canLay0 (rowsT x) = true := by rw [rowsT, PyData.canLay0]; exact lay_all lay_rowT x
theorem lay_rowsD (x : List Row) : PyData.canLay0 (rowsD x) = true := by rw [rowsD, PyData.canLay0]; exact lay_all lay_rowD x
theorem dep_rowsT (x : List Row) : PyData.depth (rowsT x) ≤ 3 := by rw [rowsT, PyData.depth]; have := depth_all dep_rowT x; omega
theorem dep_rowsD (x : List Row) : PyData.depth (rowsD x) ≤ 3 := by rw [rowsD, PyData.depth]; have := depth_all dep_rowD x; omega
theorem lay_int (x : Int) : PyData.canLay0 (.int x) = true := by simp [PyData.canLay0]
theorem dep_int (x : Int) : PyData.depth (.int x) ≤ 0 := by simp [PyData.depth]
theorem lay_intsT (x : List Int) : PyData.canLay0 (intsT x) = true := by rw [intsT, PyData.canLay0]; exact lay_all lay_int x
theorem lay_intsD (x : List Int) : PyData.canLay0 (intsD x) = true := by rw [intsD, PyData.canLay0]; exact lay_all lay_int x
theorem dep_intsT (x : List Int) : PyData.depth (intsT x) ≤ 1 := by rw [intsT, PyData.depth]; have := depth_all dep_int x; omega
theorem dep_intsD (x : List Int) : PyData.depth (intsD x) ≤ 1 := by rw [intsD, PyData.depth]; have := depth_all dep_int x; omega
theorem shaped_rowsT (x : List Row) : SeqAt.shaped (rowsT x) = true := shaped_of (lay_rowsT x) (dep_rowsT x) (by decide)
theorem shaped_rowsD (x : List Row) : SeqAt.shaped (rowsD x) = true := shaped_of (lay_rowsD x) (dep_rowsD x) (by decide)
theorem shaped_intsT (x : List Int) : SeqAt.shaped (intsT x) = true := shaped_of (lay_intsT x) (dep_intsT x) (by decide)
theorem shaped_intsD (x : List Int) : SeqAt.shaped (intsD x) = true := shaped_of (lay_intsD x) (dep_intsD x) (by decide)
end Vf
set_option Elab.async false
set_option linter.all false
set_option maxRecDepth 100000
set_option maxHeartbeats 4000000
/-! sets of keys of one kind, made out of a text or a list, counted, sorted -/
namespace Vf
open PySem PySem.Spec L2 PyProof.Rows
/-- keys of one kind, with their values -/
structure SK (P : Program) (w : World) (κ : Type) [DecidableEq κ] where
  knd : PySem.KeyKind P w κ
  val : κ → Tok → Value
  key : Value → κ
  isv : ∀ k t, knd.is k (val k t) = true
  kv : ∀ k t, key (val k t) = k
  scn : ∀ k t, (val k t).scannable = true
section
variable {P : Program} {w : World} {κ : Type} [DecidableEq κ] (T : SK P w κ)
def SK.good (e : Int × Value) : Prop := ∃ k t, e.2 = T.val k t ∧ e.1 = T.knd.hash k
def SK.keys (es : Array (Int × Value)) : List κ := es.toList.map fun e => T.key e.2
/-- what the payload of a set says: S its members, n their number -/
structure SK.Pay (S : κ → Bool) (n : Nat) (es : Array (Int × Value)) (t : SetTable) : Prop where
  good : ∀ e ∈ es.toList, T.good e
  nd : (T.keys es).Nodup
  mem : ∀ k, S k = true ↔ k ∈ T.keys es
  bd : es.size < scanBound
  fit : t.fits es.size = true
  len : es.size = n
  ris : Ris t.place.toList
  led : w.params.followText "set-order" = true ∨ t.led = true
def SK.At (h : Heap) (a : Addr) (S : κ → Bool) (n : Nat) : Prop := ∃ o es ep t, h.get? a = some o ∧ o.ExactSet ∧ o.data = .set es ep t ∧ T.Pay S n es t
variable {T}
theorem SK.At.mv {h h' : Heap} {a : Addr} {S : κ → Bool} {n : Nat} (x : T.At h a S n) (k : ∀ o, h.get? a = some o → h'.get? a = some o) : T.At h' a S n := by
  obtain ⟨o, es, ep, t, e, r⟩ := x
  exact ⟨o, es, ep, t, k o e, r⟩
theorem SK.At.cg {h : Heap} {a : Addr} {S S' : κ → Bool} {n : Nat} (x : T.At h a S n) (e : ∀ k, S' k = S k) : T.At h a S' n := by
  rw [show S' = S from funext e]; exact x
theorem SK.asks {e : Int × Value} (g : T.good e) (k : κ) : T.knd.is k e.2 = true ↔ T.key e.2 = k := by
  obtain ⟨x, t, e1, _⟩ := g
  rw [e1, T.kv]
  exact ⟨fun h => T.knd.inj _ x k (T.isv x t) h, fun h => by rw [← h]; exact T.isv x t⟩
theorem SK.Pay.els {S : κ → Bool} {n : Nat} {es : Array (Int × Value)} {t : SetTable} (p : T.Pay S n es t) : ElemsOf T.knd es.toList := fun e he => by
  obtain ⟨k, u, e1, e2⟩ := p.good e he
  exact ⟨⟨k, by rw [e1]; exact T.isv k u, e2⟩, by rw [e1]; exact T.scn k u⟩
theorem SK.Pay.has {S : κ → Bool} {n : Nat} {es : Array (Int × Value)} {t : SetTable} (p : T.Pay S n es t) (k : κ) : S k = true ↔ ∃ e ∈ es.toList, T.knd.is k e.2 = true := by
  rw [p.mem k]
  unfold SK.keys
  rw [List.mem_map]
  exact ⟨fun ⟨e, he, q⟩ => ⟨e, he, (SK.asks (p.good e he) k).mpr q⟩, fun ⟨e, he, q⟩ => ⟨e, he, (SK.asks (p.good e he) k).mp q⟩⟩
/-- the payload with other tables, its entries in another order -/
theorem SK.Pay.perm {S : κ → Bool} {n : Nat} {es es' : Array (Int × Value)} {t t' : SetTable} (p : T.Pay S n es t) (q : es'.toList.Perm es.toList) (hf : t'.fits es'.size = true) (hr : Ris t'.place.toList) (hl : t'.led = t.led) : T.Pay S n es' t' := by
  have hs : es'.size = es.size := by rw [← Array.length_toList, q.length_eq, Array.length_toList]
  have hk : (T.keys es').Perm (T.keys es) := q.map _
  exact ⟨fun e he => p.good e (q.mem_iff.mp he), hk.nodup_iff.mpr p.nd, fun k => (p.mem k).trans hk.mem_iff.symm, by rw [hs]; exact p.bd, hf, hs.trans p.len, hr, p.led.imp id fun z => by rw [hl]; exact z⟩
theorem SK.Pay.plus {S : κ → Bool} {n : Nat} {es es' : Array (Int × Value)} {t t' : SetTable} {k : κ} {u : Tok} (p : T.Pay S n es t) (hS : S k = false) (q : es'.toList.Perm (es.toList ++ [(T.knd.hash k, T.val k u)])) (hb : n + 1 < scanBound) (hf : t'.fits es'.size = true) (hr : Ris t'.place.toList) (hl : t'.led = t.led) :
    T.Pay (fun j => S j || decide (j = k)) (n + 1) es' t' := by
  have q1 := q.trans (List.perm_append_singleton _ _)
  have hk : (T.keys es').Perm (k :: T.keys es) := by
    have := q1.map fun e => T.key e.2
    rw [List.map_cons, T.kv] at this
    exact this
  have hs : es'.size = n + 1 := by rw [← Array.length_toList, q1.length_eq, List.length_cons, Array.length_toList, p.len]
  refine ⟨fun e he => ?_, hk.nodup_iff.mpr (List.nodup_cons.mpr ⟨fun z => ?_, p.nd⟩), fun j => ?_, by rw [hs]; exact hb, hf, hs, hr, p.led.imp id fun z => by rw [hl]; exact z⟩
  · rcases List.mem_cons.mp (q1.mem_iff.mp he) with z | z
    · exact ⟨k, u, by rw [z], by rw [z]⟩
    · exact p.good e z
  · rw [(p.mem k).mpr z] at hS; cases hS
  · rw [hk.mem_iff, List.mem_cons, ← p.mem j, Bool.or_eq_true, decide_eq_true_eq]
    exact Or.comm
theorem SK.Pay.dup {S : κ → Bool} {n : Nat} {es : Array (Int × Value)} {t : SetTable} {k : κ} (p : T.Pay S n es t) (hS : S k = true) : T.Pay (fun j => S j || decide (j = k)) n es t :=
  ⟨p.good, p.nd, fun j => (show (S j || decide (j = k)) = true ↔ S j = true from ⟨fun z => by
      rw [Bool.or_eq_true, decide_eq_true_eq] at z
      exact z.elim id fun e => by rw [e]; exact hS, fun z => by rw [z]; rfl⟩).trans (p.mem j), p.bd, p.fit, p.len, p.ris, p.led⟩
end
section
variable {P : Program} {w : World} {κ : Type} [DecidableEq κ] {T : SK P w κ} {A : Around} {E : Value → Shared → Prop} {s : Shared} {a : Addr} {S : κ → Bool} {n : Nat}
theorem SK.tail {g : Bool → Sem Unit} (hg : ∀ (b : Bool) (s1 : Shared) (Q1 : Unit → Shared → Prop), Q1 () s1 → wpAny (model P w) A (g b) Q1 E s1) {o : Obj} {es : Array (Int × Value)} {ep : Nat} {t : SetTable} (ho : s.heap.get? a = some o) (hx : o.ExactSet) (hd : o.data = .set es ep t)
    {ys : Array (Int × Value)} {t2 : SetTable} (p : T.Pay S n ys t2) {wd : Bool} {R : Option Bool → Shared → Prop} (hR : ∀ h', Heap.SameBut a s.heap h' → T.At h' a S n → R (some true) { s with heap := h' }) :
    wpAny (model P w) A (do
      storeSet a ys t2
      if (!wd && t2.tooFull) = true then do
          g (relayAll t2 ys (SetTable.grown ys.size)).2.2; storeSet a (relayAll t2 ys (SetTable.grown ys.size)).1 (relayAll t2 ys (SetTable.grown ys.size)).2.1; pure (some true)
        else pure (some true)) R E s := by
  have p1 := store_at (es' := ys) (t' := t2) ho hd
  have b1 := Heap.SameBut.update s.heap a (Obj.putSet ys t2)
  refine wpAny_bind (wpAny_storeSet_of ho hd ?_ (fits_of_scanBound p.bd))
  split
  · have q := p.perm (relayAll_perm t2 ys (SetTable.grown ys.size)) (relayAll_fits t2 ys _) (relayAll_ris t2 ys _) (relayAll_led t2 ys _)
    generalize relayAll t2 ys (SetTable.grown ys.size) = Z at q ⊢
    refine wpAny_bind (hg _ _ _ (wpAny_bind (wpAny_storeSet_of p1 rfl ?_ (fits_of_scanBound q.bd))))
    exact wpAny_pure (hR _ (b1.trans (Heap.SameBut.update _ a _)) ⟨_, Z.1, _, Z.2.1, store_at (es' := Z.1) (t' := Z.2.1) p1 rfl, hx, rfl, q⟩)
  · exact wpAny_pure (hR _ b1 ⟨_, ys, _, t2, p1, hx, rfl, p⟩)
theorem SK.add {k : κ} {u : Tok} {Q : Bool → Shared → Prop} (x : T.At s.heap a S n) (room : n + 1 < scanBound)
    (hQ : ∀ h' m, Heap.SameBut a s.heap h' → T.At h' a (fun j => S j || decide (j = k)) m → m ≤ n + 1 → Q (!S k) { s with heap := h' }) : wpAny (model P w) A (setAddHashed a (T.val k u) (T.knd.hash k)) Q E s := by
  obtain ⟨o, es, ep, t, ho, hx, hd, p⟩ := x
  have hgw : ∀ (b : Bool) {s1 : Shared} {Q1 : Unit → Shared → Prop}, Q1 () s1 → wpAny (model P w) A (match b with | true => rule "set.scan.the-table-gave-way" | false => pure ()) Q1 E s1 := fun b _ _ q => match b with
    | true => wpAny_rule q
    | false => wpAny_pure q
  have hsc := T.scn k u
  unfold setAddHashed setAddHashedIn
  refine wpAny_holding (wpAny_bind (wpAny_setState_of ho hd p.fit ?_)); dsimp only
  rw [byScan_of hsc p.bd p.els]; simp only [↓reduceIte]
  unfold setAddByScan
  refine wpAny_bind (wpAny_bind (wpAny_rule (wpAny_bind (wpAny_setScan_of (T.isv k u) ho hd p.fit p.els ?_))))
  cases hfi : List.findIdx? (fun e => T.knd.is k e.2) es.toList with
  | some j =>
    obtain ⟨hj, pj, _⟩ := List.findIdx?_eq_some_iff_getElem.mp hfi
    have hS : S k = true := (p.has k).mpr ⟨_, List.getElem_mem hj, pj⟩
    have := hQ s.heap n (Heap.SameBut.refl a s.heap) ⟨o, es, ep, t, ho, hx, hd, p.dup hS⟩ (Nat.le_succ n)
    rw [hS] at this
    exact wpAny_pure (wpAny_pure this)
  | none =>
    dsimp only
    have hS : S k = false := by
      cases z : S k with
      | false => rfl
      | true =>
        obtain ⟨e, he, q⟩ := (p.has k).mp z
        have := List.findIdx?_eq_none_iff.mp hfi e he
        rw [q] at this; cases this
    have z1 := layNew_perm t es (T.knd.hash k) (T.val k u)
    have z2 := layNew_fits t es (T.knd.hash k) (T.val k u)
    have z3 := layNew_ris t es (T.knd.hash k) (T.val k u) p.ris
    have z4 := layNew_led t es (T.knd.hash k) (T.val k u)
    rw [Array.toList_push] at z1
    generalize layNew t es (T.knd.hash k) (T.val k u) = Z at z1 z2 z3 z4 ⊢
    obtain ⟨ys, t1, wd, gave⟩ := Z
    dsimp only at z1 z2 z3 z4 ⊢
    have py := p.plus hS z1 room z2 z3 z4
    have fin : ∀ h', Heap.SameBut a s.heap h' → T.At h' a (fun j => S j || decide (j = k)) (n + 1) → Q true { s with heap := h' } := fun h' b y => by
      have := hQ h' (n + 1) b y (Nat.le_refl _)
      rw [hS] at this
      exact this
    have hgp : ∀ (b : Bool) (s1 : Shared) (Q1 : Unit → Shared → Prop), Q1 () s1 → wpAny (model P w) A (match b with | true => rule "set.scan.the-table-gave-way" | false => pure ()) Q1 E s1 := fun b _ _ q => hgw b q
    refine wpAny_bind (hgw _ ?_)
    split
    · refine wpAny_bind ?_
      rw [hashByValue_scannable 8 hsc]
      refine wpAny_pure (SK.tail (T := T) ?_ ho hx hd (S := fun j => S j || decide (j = k)) (n := n + 1) ?_ fun h' b y => by dsimp only; exact wpAny_pure (fin h' b y))
      · intro b s1 Q1 q; cases b <;> first | exact wpAny_pure q | exact wpAny_rule q
      · first
          | exact { py with fit := SetTable.fits_plain_off z2 }
          | (split <;> first | exact py | exact { py with fit := SetTable.fits_plain_off z2 })
    · refine wpAny_bind (wpAny_pure ?_)
      simp only [↓reduceIte]
      refine SK.tail (T := T) ?_ ho hx hd (S := fun j => S j || decide (j = k)) (n := n + 1) py fun h' b y => by dsimp only; exact wpAny_pure (fin h' b y)
      intro b s1 Q1 q; cases b <;> first | exact wpAny_pure q | exact wpAny_rule q
end
section
variable {P : Program} {w : World} {κ : Type} [DecidableEq κ] {T : SK P w κ} {A : Around} {E : Value → Shared → Prop}
/-- all that an iterator gives goes into the set -/
theorem SK.loop {I a : Addr} {fp wr : List Addr} {G : Array GenState → Array GenState → Prop} {N : Nat} {Pv : Nat → Value → Prop} {St : Nat → Shared → Prop} {R : Result → Shared → Prop} (W : WalksS P w A.in1 I fp wr G N Pv St) (haf : a ∉ fp) (ks : List κ) (hN : N = ks.length) (hb : ks.length + 1 < scanBound)
    (hv : ∀ i v, Pv i v → ∃ k t, ks[i]? = some k ∧ v = T.val k t) : ∀ (m i : Nat) (s : Shared), N - i = m → i ≤ N → St i s → (∃ c, c ≤ i ∧ T.At s.heap a (fun j => decide (j ∈ ks.take i)) c) →
    (∀ s2 c, Moved (a :: wr) G s s2 → c ≤ N → T.At s2.heap a (fun j => decide (j ∈ ks)) c → R (.ok (.ret .none)) s2) → codeAny (model P w) A (.builtin "set.update.loop" ⟨[.ref a, .ref I], []⟩) R s := by
  have haw : a ∉ wr := fun z => haf (W.sub _ z)
  have hup : ∀ b ∈ wr, b ∈ a :: wr := fun b z => List.mem_cons_of_mem _ z
  intro m
  induction m with
  | zero =>
    rintro i s hm hi hst ⟨c, hc, hS⟩ hR
    obtain rfl : i = N := by omega
    refine codeAny_builtin F.entry_set_update_loop ?_; rw [Around.under_plainId F.plain_set_update_loop _]
    refine (show wpAny _ A.in1 (pyNext (.ref I) >>= _) _ _ s from wpAny_bind (W.done s _ _ hst fun s2 mv => ?_))
    rw [List.take_of_length_le (by omega)] at hS
    exact (show wpAny _ A.in1 (ret Value.none) _ _ s2 from wpAny_pure (hR s2 c (mv.mono hup) hc (hS.mv fun o e => mv.heap a o haw e)))
  | succ m ih =>
    rintro i s hm hi hst ⟨c, hc, hS⟩ hR
    have hlt : i < N := by omega
    refine codeAny_builtin F.entry_set_update_loop ?_; rw [Around.under_plainId F.plain_set_update_loop _]
    refine (show wpAny _ A.in1 (pyNext (.ref I) >>= _) _ _ s from wpAny_bind (W.item i s _ _ hlt hst fun v s2 hP hst2 mv => ?_))
    obtain ⟨k, t, hk, rfl⟩ := hv i v hP
    have hS2 : T.At s2.heap a (fun j => decide (j ∈ ks.take i)) c := hS.mv fun o e => mv.heap a o haw e
    refine (show wpAny _ A.in1 (holding [T.val k t] (setAdd a (T.val k t)) >>= _) _ _ s2 from wpAny_bind (wpAny_holding ?_))
    unfold setAdd
    refine wpAny_holding (wpAny_bind (T.knd.pyHash (k := k) (T.isv k t) (SK.add (s := { s2 with toks := s2.toks + 1 }) hS2 (by omega) fun h' c2 sb hS3 hc2 => ?_)))
    have hS4 : T.At h' a (fun j => decide (j ∈ ks.take (i + 1))) c2 := hS3.cg fun j => by
      rw [List.take_add_one, hk]
      simp [List.mem_append]
    refine wpAny_pure ⟨plainId_quiet F.plain_set_update_loop _, ih (i + 1) _ (by omega) hlt (W.frame _ s2 _ _ hst2 (Nat.le_succ _) fun b z o e => ?_) ⟨c2, by omega, hS4⟩ fun s3 c3 mv3 hc3 hS5 => ?_⟩
    · rw [sb.2 b fun q : b = a => haf (q ▸ z)]; exact e
    · refine hR s3 c3 (Moved.trans W.gtrans ((mv.mono hup).then_heap (Nat.le_succ _) fun b o z e => ?_) mv3) hc3 hS5
      rw [sb.2 b fun q : b = a => z (q ▸ List.mem_cons_self)]; exact e
theorem SK.fresh {h : Heap} {a : Addr} {S : κ → Bool} (e : ∀ k, S k = false) (ho : h.get? a = some { cls := .type "set", dict := none, data := .set #[] 0 (.fresh 0 0 (!w.params.followText "set-order")) }) : T.At h a S 0 :=
  ⟨_, #[], 0, _, ho, ⟨rfl, rfl, rfl⟩, rfl, ⟨(fun e he => by simp at he), List.Pairwise.nil, (fun k => by rw [e k]; exact ⟨(fun z => by cases z), fun z => nomatch z⟩), by decide, by rfl, rfl, List.Pairwise.nil, by
    cases z : w.params.followText "set-order" with
    | false => exact .inr rfl
    | true => exact .inl rfl⟩⟩
end
section
variable {P : Program} {w : World} {A : Around} {E : Value → Shared → Prop} {s : Shared}
def txK (P : Program) (w : World) : SK P w Str := ⟨strKind P w, fun k t => .str k t, fun v => match v with | .str k _ => k | _ => Str.empty, fun k t => by show Value.isStrOf k (.str k t) = true; simp [Value.isStrOf], fun _ _ => rfl, fun _ _ => rfl⟩
def inK (P : Program) (w : World) : SK P w Int := ⟨intKind P w, fun k t => .int k t, fun v => match v with | .int k _ => k | _ => 0, fun k t => intKind_is P w k t, fun _ _ => rfl, fun _ _ => rfl⟩
/-- what a set is filled with -/
def Fill (P : Program) (w : World) {κ : Type} [DecidableEq κ] (T : SK P w κ) (x : Value) (ks : List κ) (h0 : Heap) : Prop := ∀ {A : Around} {E : Value → Shared → Prop} {s : Shared} {a : Addr} {Q : Unit → Shared → Prop}, A.handled = none → (∀ b o, h0.get? b = some o → s.heap.get? b = some o) → h0.get? a = none → T.At s.heap a (fun _ => false) 0 →
  (∀ h' tk c, T.At h' a (fun j => decide (j ∈ ks)) c → c ≤ ks.length → (∀ b o, b ≠ a → s.heap.get? b = some o → h'.get? b = some o) → Q () { s with heap := h', toks := tk }) → wpAny (model P w) A (Builtin.Frozenset.updateFrom "set.__init__" a x) Q E s
theorem fill_end {κ : Type} [DecidableEq κ] {T : SK P w κ} {ks : List κ} {A : Around} {E : Value → Shared → Prop} {s s2 : Shared} {a I : Addr} {Q : Unit → Shared → Prop} {h1 : Heap} {c : Nat} {S0 : κ → Bool} (_ : T.At h1 a S0 0) (k1 : ∀ b o, s.heap.get? b = some o → h1.get? b = some o) (k2 : ∀ b o, b ∉ [a, I] → h1.get? b = some o → s2.heap.get? b = some o) (e1 : s2.gens = s.gens) (e2 : s2.drawn = s.drawn) (e3 : s2.os = s.os)
    (h2 : T.At s2.heap a (fun j => decide (j ∈ ks)) c) (hc : c ≤ ks.length) (hI : ∀ b o, s.heap.get? b = some o → b ≠ I) (hq : ∀ h' tk c, T.At h' a (fun j => decide (j ∈ ks)) c → c ≤ ks.length → (∀ b o, b ≠ a → s.heap.get? b = some o → h'.get? b = some o) → Q () { s with heap := h', toks := tk }) :
    wpAny (model P w) A (pure ()) Q E s2 := by
  obtain ⟨h', g2, d2, tk2, os2⟩ := s2
  subst e1; subst e2; subst e3
  exact wpAny_pure (hq h' tk2 c h2 hc fun b o z e => k2 b o (by simp only [List.mem_cons, List.not_mem_nil, or_false, not_or]; exact ⟨z, hI b o e⟩) (k1 b o e))
theorem fill_text {y : Str} {t : Tok} {h0 : Heap} (hl : y.length + 1 < scanBound) : Fill P w (txK P w) (.str y t) ((TL.tl y).map sg) h0 := by
  intro A E s a Q hh _ _ hS hq
  have hlen : y.cps.size = ((TL.tl y).map sg).length := by rw [List.length_map]; exact TL.len_tl y
  have hlt : a < s.heap.objs.size := by
    obtain ⟨o, _, _, _, e, _⟩ := hS
    exact Heap.lt_size e
  unfold Builtin.Frozenset.updateFrom
  refine wpAny_bind (Fz.anySet ?_)
  rw [if_neg Bool.false_ne_true]
  refine wpAny_bind (wpAny_typeOf (typeIs_str _ _ _) ?_)
  rw [if_neg (by decide)]
  refine wpAny_bind (wpAny_pyIter_str fun o St hW hst => wpAny_bind (wpAny_runValue ?_))
  have hne : a ≠ s.heap.objs.size := Nat.ne_of_lt hlt
  have hS1 : (txK P w).At (s.heap.push o) a (fun j => decide (j ∈ ((TL.tl y).map sg).take 0)) 0 := (hS.mv fun o' e => Heap.get?_push_of_some _ e).cg fun k => by simp
  refine SK.loop (T := txK P w) (hW A.in1 (by simp [hh])).toS (by simpa using hne) ((TL.tl y).map sg) hlen (by rw [← hlen]; exact hl) (fun i v hv => ?_) _ 0 { s with heap := s.heap.push o } rfl (Nat.zero_le _) hst ⟨0, Nat.le_refl 0, hS1⟩ fun s2 c mv hc h2 => ?_
  · obtain ⟨c, u, h1, rfl⟩ := hv
    refine ⟨sg c, u, ?_, rfl⟩
    rw [List.getElem?_map, show (TL.tl y)[i]? = some c from by rw [← h1]; exact Array.getElem?_toList]
    rfl
  · exact fill_end hS1 (fun b o' e => Heap.get?_push_of_some _ e) (fun b o' e => mv.heap b o' e) mv.gens mv.drawn mv.os h2 (by rw [← hlen]; exact hc) (fun b o' e => Nat.ne_of_lt (Heap.lt_size e)) hq
theorem anySetL {l : Addr} {Q : Bool → Shared → Prop} (hT : s.TypeIs (.ref l) "list") (h : Q false s) : wpAny (model P w) A (Builtin.Frozenset.isAnySet (.ref l)) Q E s := by
  unfold Builtin.Frozenset.isAnySet orM
  refine wpAny_bind (wpAny_isInstance hT PySem.F.sub_list_set ?_)
  exact (show wpAny _ _ (isInstance (.ref l) (.type "frozenset")) _ _ s from wpAny_isInstance hT PySem.F.sub_list_frozenset h)
theorem fill_list {κ : Type} [DecidableEq κ] {T : SK P w κ} {l : Addr} {items : Array Value} {ks : List κ} {h0 : Heap} (hl : h0.IsList l items) (hn : items.size = ks.length) (hv : ∀ (i : Nat) (v : Value), items[i]? = some v → ∃ (k : κ) (t : Tok), ks[i]? = some k ∧ v = T.val k t) (hb : ks.length + 1 < scanBound) : Fill P w T (.ref l) ks h0 := by
  intro A E s a Q hh hk ha hS hq
  have hl1 : s.heap.IsList l items := by
    obtain ⟨o, e, r⟩ := hl
    exact ⟨o, hk l o e, r⟩
  have hlt : a < s.heap.objs.size := by
    obtain ⟨o, _, _, _, e, _⟩ := hS
    exact Heap.lt_size e
  have hla : l ≠ a := fun z => by
    obtain ⟨o, e, _⟩ := hl
    rw [z, ha] at e; cases e
  have hll : l < s.heap.objs.size := by
    obtain ⟨o, e, _⟩ := hl1
    exact Heap.lt_size e
  have hT : s.TypeIs (.ref l) "list" := by
    obtain ⟨o, e, c, _⟩ := hl1
    exact ⟨o, e, c⟩
  unfold Builtin.Frozenset.updateFrom
  refine wpAny_bind (anySetL hT ?_)
  rw [if_neg Bool.false_ne_true]
  refine wpAny_bind (wpAny_typeOf hT ?_)
  rw [if_neg (by decide)]
  refine wpAny_bind (wpAny_pyIter_list hl1 (wpAny_bind (wpAny_runValue ?_)))
  have hne : a ≠ s.heap.objs.size := Nat.ne_of_lt hlt
  have hS1 : T.At (s.heap.push { cls := .type "list_iterator", data := .fields #[.ref l, .int 0 0] }) a (fun j => decide (j ∈ ks.take 0)) 0 := (hS.mv fun o' e => Heap.get?_push_of_some _ e).cg fun k => by simp
  refine SK.loop (T := T) (Walks.list (A := A.in1) (by simp [hh]) s.heap.objs.size l (Nat.ne_of_lt hll) items).toS (by simp only [List.mem_cons, List.not_mem_nil, or_false, not_or]; exact ⟨hne, fun z => hla z.symm⟩) ks hn hb hv _ 0 { s with heap := s.heap.push { cls := .type "list_iterator", data := .fields #[.ref l, .int 0 0] } } rfl (Nat.zero_le _) ⟨⟨_, Heap.get?_push_size _ rfl, rfl, rfl⟩, hl1.push _⟩ ⟨0, Nat.le_refl 0, hS1⟩ fun s2 c mv hc h2 => ?_
  exact fill_end hS1 (fun b o' e => Heap.get?_push_of_some _ e) (fun b o' e => mv.heap b o' e) mv.gens mv.drawn mv.os h2 (by rw [← hn]; exact hc) (fun b o' e => Nat.ne_of_lt (Heap.lt_size e)) hq
def emptySet (w : World) : Obj := { cls := .type "set", dict := none, data := .set #[] 0 (.fresh 0 0 (!w.params.followText "set-order")) }
theorem set_of {κ : Type} [DecidableEq κ] {T : SK P w κ} {x : Value} {ks : List κ} {Q : Value → Shared → Prop} (F0 : Fill P w T x ks s.heap) (hh : A.handled = none)
    (h : ∀ h' tk c, T.At h' s.heap.objs.size (fun j => decide (j ∈ ks)) c → c ≤ ks.length → (∀ b o, s.heap.get? b = some o → h'.get? b = some o) → Q (.ref s.heap.objs.size) { s with heap := h', toks := tk }) :
    wpAny (model P w) A (call (.type "set") [x]) Q E s := by
  obtain ⟨c0, tl, hmro⟩ := F.called_set.mro
  have q1 := F.called_set.made
  have q2 := F.called_set.sub
  refine wpAny_call (codeAny_of_tree (show wpAny _ _ (callAny (.type "set") _) _ _ _ from wpAny_pure ⟨Code.quiet_builtin _ (by decide +kernel), codeAny_builtin F.entry_type_call ?_⟩))
  rw [Around.under_plain (weight_type_call_type "set" [x] []) rfl]
  have q3 := F.called_set.notType
  have q4 := F.called_set.canCreate
  have q5 := F.typeCall_set_1 x
  repeat (any_goals (first | assumption | wp_step))
  refine codeAny_mono (code_set_led1 x (E := E) (Q₁ := fun obj s₁ => obj = .ref s.heap.objs.size ∧ s₁ = { s with heap := s.heap.push (emptySet w) }) ⟨rfl, rfl⟩) fun r s₁ hr => ?_
  cases r with
  | error e => exact hr
  | ok fl =>
    cases fl with
    | ret obj =>
      obtain ⟨rfl, rfl⟩ := hr
      have g0 : (s.heap.push (emptySet w)).get? s.heap.objs.size = some (emptySet w) := Heap.get?_push_size _ rfl
      have hT : Shared.TypeIs { s with heap := s.heap.push (emptySet w) } (.ref s.heap.objs.size) "set" := ⟨_, g0, rfl⟩
      have hli := F.called_set.init.lookup
      have hbi := F.called_set.init.bind (.ref s.heap.objs.size)
      repeat (any_goals (first | assumption | wp_step))
      refine codeAny_mono (codeAny_call_builtin (R := wants (fun r s₂ => r = .none ∧ ∃ h' tk c, s₂ = { s with heap := h', toks := tk } ∧ T.At h' s.heap.objs.size (fun j => decide (j ∈ ks)) c ∧ c ≤ ks.length ∧ ∀ b o, s.heap.get? b = some o → h'.get? b = some o) E) F.called_set.init.plain F.entry_set_init (check_set_init_1 hT ?_)) fun r₂ s₂ hr₂ => ?_
      · unfold Builtin.«set.__init__» noKeywords
        generalize hU : Builtin.Frozenset.updateFrom = U
        wp_walk
        subst hU
        refine F0 (by simp [hh]) (fun b o e => Heap.get?_push_of_some _ e) ?_ (SK.fresh (fun _ => rfl) g0) fun h' tk c z1 z2 z3 => ?_
        · cases z : s.heap.get? s.heap.objs.size with
          | none => rfl
          | some o => exact absurd (Heap.lt_size z) (Nat.lt_irrefl _)
        · exact (show wpAny _ _ (ret Value.none) _ _ _ from wpAny_pure ⟨rfl, h', tk, c, rfl, z1, z2, fun b o e => z3 b o (Nat.ne_of_lt (Heap.lt_size e)) (Heap.get?_push_of_some _ e)⟩)
      · cases r₂ with
        | error e => exact hr₂
        | ok fl₂ =>
          cases fl₂ with
          | ret r =>
            obtain ⟨rfl, h', tk, c', rfl, z1, z2, z3⟩ := hr₂
            repeat (any_goals (first | assumption | wp_step))
            exact h _ _ _ z1 z2 z3
          | _ => exact hr₂.elim
    | _ => exact hr.elim
end
end Vf
set_option Elab.async false
set_option linter.all false
set_option maxRecDepth 100000
set_option maxHeartbeats 4000000
/-! sets of texts: as values, counted, sorted; sets of numbers out of lists -/
namespace Vf
open PySem PySem.Spec L2 PyProof.Rows
section
variable {P : Program} {w : World} {A : Around} {E : Value → Shared → Prop} {s : Shared} {a : Addr}
theorem SK.At.num {κ : Type} [DecidableEq κ] {T : SK P w κ} {h : Heap} {S : κ → Bool} {n : Nat} (x : T.At h a S n) : ∀ l : List κ, l.Nodup → (∀ k, k ∈ l ↔ S k = true) → l.length = n := fun l hl hm => by
  obtain ⟨o, es, ep, t, _, _, _, p⟩ := x
  have h1 := (List.perm_ext_iff_of_nodup hl p.nd).mpr fun k => (hm k).trans (p.mem k)
  rw [h1.length_eq, ← p.len]
  unfold SK.keys
  rw [List.length_map, Array.length_toList]
theorem sorted_tx {S : Str → Bool} {n : Nat} {Q : Value → Shared → Prop} (x : (txK P w).At s.heap a S n) (hh : A.handled = none) (h64 : n < 64)
    (hQ : ∀ s2 p (out : Array Value) (c : Nat) (ys : List Str), (∀ b o, s.heap.get? b = some o → s2.heap.get? b = some o) → s2.gens = s.gens → s2.os = s.os → s.heap.objs.size ≤ p → s2.heap.get? p = some (seqObj "list" out c) → StrsAre out.toList ys → sortedS ys = true → ys.Nodup → (∀ k, k ∈ ys ↔ S k = true) → ys.length = n → Q (.ref p) s2) :
    wpAny (model P w) A (call (.builtin "sorted") [.ref a]) Q E s := by
  obtain ⟨o, es, ep, t, ho, hx, hd, p⟩ := x
  refine Calls.call_function_entry kind_sorted plain_sorted entry_sorted (args_sorted1 _) (?_ : wpAny _ _ (Builtin.«sorted» _) _ _ _)
  unfold Builtin.«sorted»
  refine wpAny_bind (m := checkCount "sorted" 1 1 _) (wpAny_pure (wpAny_bind (collect_set (A := A.in1) hh ⟨o, ho, hx.1, hd⟩ p.fit p.bd p.ris p.led fun s1 vs k1 hz g1 o1 pm => ?_)))
  have hl : vs.length = n := by rw [pm.length_eq, List.length_map, Array.length_toList]; exact p.len
  have hstr : ∀ v ∈ vs, ∃ y u, v = Value.str y u := fun v hv => by
    obtain ⟨e, he, q⟩ := List.mem_map.mp (pm.mem_iff.mp hv)
    obtain ⟨k, u, e1, _⟩ := p.good e he
    exact ⟨k, u, q.symm.trans e1⟩
  have hS : StrsAre vs (vs.map strOf) := strsAre_map vs hstr
  have pk : (vs.map strOf).Perm ((txK P w).keys es) := by
    have q := pm.map strOf
    rw [List.map_map] at q
    refine q.trans (List.Perm.of_eq (List.map_congr_left fun e he => ?_))
    obtain ⟨k, u, e1, _⟩ := p.good e he
    show strOf e.2 = (txK P w).key e.2
    rw [e1]
    rfl
  refine wpAny_bind (wpAny_newList ?_ (by rw [hl, sizeLine_eq]; omega))
  have hoL : (s1.heap.push (seqObj "list" vs.toArray 0)).get? s1.heap.objs.size = some (seqObj "list" vs.toArray 0) := Heap.get?_push_size _ rfl
  refine wpAny_bind (wpAny_holding (wpAny_call_entry slot_list_sort ⟨_, hoL, rfl⟩ entry_list_sort (list_sort_treeK strKind_oneLt hoL hS.keysOf (fun v₁ v₂ rest e => keyKind_strs (by rw [← e]; exact hS)) (by rw [hl]; exact h64) fun st2 hp hs => ⟨_, rfl, ?_⟩) (args_list_sort _)))
  obtain ⟨ys, b1, b2, b3⟩ := sorted_out_str hS hp hs
  obtain ⟨c, hc⟩ := sortedHeap_at (vs := vs) (out := (arrOf st2).map (·.2)) hoL
  have pn := b2.trans pk
  refine wpAny_pure ⟨_, rfl, hQ _ s1.heap.objs.size _ c ys (fun b u e => ?_) g1 o1 hz hc b1 b3 (pn.nodup_iff.mpr p.nd) (fun k => by rw [pn.mem_iff, ← p.mem k]) (by rw [pn.length_eq, ← p.len]; unfold SK.keys; rw [List.length_map, Array.length_toList])⟩
  have q := k1 b u e
  have hlt := Heap.lt_size q
  refine (show (sortedHeap (s1.heap.push (seqObj "list" vs.toArray 0)) s1.heap.objs.size vs _).get? b = some u from ?_)
  rw [sortedHeap_old (Nat.ne_of_lt hlt) (by rw [size_push']; exact Nat.lt_succ_of_lt hlt)]
  exact Heap.get?_push_of_some _ q
end
/-- the set of texts at a -/
def TxO (P : Program) (w : World) (a : Addr) (S : Str → Bool) (n : Nat) : HO := .ext fun h => (txK P w).At h a S n
section
variable {X : Cx}
theorem txO_new {P : Program} {w : World} {H : Hp} {h : Heap} {a : Addr} {S : Str → Bool} {n : Nat} (x : (txK P w).At h a S n) : ObjOk P w H h a (TxO P w a S n) := by
  have ⟨o, _, _, _, e, _⟩ := x
  exact ⟨x, ⟨o, e⟩, fun _ _ p k => SK.At.mv p (k)⟩
theorem txO_get {pins : List (Addr × Obj)} {σ : L2.St} {H : Hp} {s : Shared} {a : Addr} {S : Str → Bool} {n : Nat} (I : Inv X pins σ H s) (e : H a = some (TxO X.prog X.w a S n)) : (txK X.prog X.w).At s.heap a S n := (I.hok a _ e).1
/-- set(text), set(list of texts) -/
def rSetT (X : Cx) : List V → Hp → VK → Prop := fun xs H Q => ∃ ks : List Str, ((∃ z : Str, xs = [.str z] ∧ ks = (TL.tl z).map sg) ∨ (∃ l, xs = [.ref l] ∧ SqL X.K H l (ks.map V.str))) ∧ ks.length ≤ 1000 ∧
  ∀ p n, H p = none → (∀ l : List Str, l.Nodup → (∀ k, k ∈ l ↔ k ∈ ks) → l.length = n) → n ≤ ks.length → Q (.ref p) (L2.upd H p (TxO X.prog X.w p (fun j => decide (j ∈ ks)) n))
theorem call_setT (hc : X.calm = true) : CallR X (.type "set") (rSetT X) := by
  intro pins s σ H xs us Q I r h
  obtain ⟨ks, hx, hl, q⟩ := h
  have hb : ks.length + 1 < scanBound := by unfold scanBound; omega
  have fin : ∀ u : Value, us = [u] → Fill X.prog X.w (txK X.prog X.w) u ks s.heap → wpAny (model X.prog X.w) X.A (call (.type "set") us) (EP X pins σ Q) X.xe s := by
    rintro u rfl FF
    refine set_of FF (I.ok.hd hc) fun h' tk c z1 z2 z3 => ?_
    have hp := I.hok.fresh (Nat.le_refl s.heap.objs.size)
    exact ⟨.ref _, L2.upd H s.heap.objs.size (TxO X.prog X.w s.heap.objs.size (fun j => decide (j ∈ ks)) c), I.laid (t' := tk) z3 (Nat.le_refl _) (txO_new z1), rfl, q _ c hp (fun l h1 h2 => z1.num l h1 fun k => by rw [h2 k, decide_eq_true_eq]) z2⟩
  rcases hx with ⟨z, rfl, rfl⟩ | ⟨l, rfl, hs⟩
  · obtain ⟨u, rfl, t, rfl⟩ := vals1 r
    rw [List.length_map, ← TL.len_tl] at hb
    exact fin _ rfl (fill_text hb)
  · obtain ⟨its, rv, pl, _⟩ := I.list hs
    have hlen : its.toArray.size = ks.length := by rw [List.size_toArray, ← rv.length, List.length_map]
    refine fin _ (Vals.ref1 r) (fill_list (T := txK X.prog X.w) pl.isList hlen (fun i v hv => ?_) hb)
    have hv : its[i]? = some v := by rw [← hv]; simp
    have hi : i < ks.length := by rw [← hlen]; exact (Array.getElem?_eq_some_iff.mp (by rw [← hv]; simp : its.toArray[i]? = some v)).1
    obtain ⟨t, e⟩ := SS.strs_at (strsAre_of rv) i v hv
    refine ⟨ks[i], t, List.getElem?_eq_getElem hi, ?_⟩
    rw [e, List.getD_eq_getElem?_getD, List.getElem?_eq_getElem hi]
    rfl
/-- sorted(set of texts) -/
def rSortT (X : Cx) : List V → Hp → VK → Prop := fun xs H Q => ∃ (a : Addr) (S : Str → Bool) (n : Nat), xs = [.ref a] ∧ H a = some (TxO X.prog X.w a S n) ∧ n < 64 ∧
  ∀ (ys : List Str) (p : Addr), sortedS ys = true → ys.Nodup → (∀ k, k ∈ ys ↔ S k = true) → H p = none → Q (.ref p) (L2.upd H p (.lst (ys.map V.str)))
theorem call_sortT (hc : X.calm = true) : CallR X (.builtin "sorted") (rSortT X) := by
  intro pins s σ H xs us Q I r h
  obtain ⟨a, S, n, rfl, ha, h64, q⟩ := h
  rw [Vals.ref1 r]
  refine sorted_tx (txO_get I ha) (I.ok.hd hc) h64 fun s2 p out c ys k g o hp hg b1 b2 b3 b4 b5 => ?_
  have hlen : (ys.map V.str).length ≤ sizeLine := by rw [List.length_map, b5, sizeLine_eq]; omega
  have hn : H p = none := I.hok.fresh hp
  have J : Inv X pins σ (L2.upd H p (.lst (ys.map V.str))) { s with heap := s2.heap, gens := s2.gens, drawn := s2.drawn, toks := s2.toks } := I.call (ch := []) (Un.laid k hp hn) (I.hok.laid k hp ⟨hlen, out.toList, c, vals_of_strs b1, hg⟩) (by rw [g]; exact I.bare) (fun _ z => nomatch z)
  have e : s2 = { s with heap := s2.heap, gens := s2.gens, drawn := s2.drawn, toks := s2.toks } := by
    cases s2; cases s; cases o; rfl
  rw [e]
  exact ⟨.ref p, _, J, rfl, q ys p b2 b3 b4 hn⟩
/-- len(set of texts) -/
def rLenT (X : Cx) : List V → Hp → VK → Prop := fun xs H Q => ∃ (a : Addr) (S : Str → Bool) (n : Nat), xs = [.ref a] ∧ H a = some (TxO X.prog X.w a S n) ∧ Q (.int n) H
theorem call_lenT : CallR X (.builtin "len") (rLenT X) := by
  intro pins s σ H xs us Q I r h
  obtain ⟨a, S, n, rfl, ha, q⟩ := h
  rw [Vals.ref1 r]
  obtain ⟨o, es, ep, t, ho, hx, hd, p⟩ := txO_get I ha
  refine call_len_set ho hx hd p.fit (by have := p.bd; unfold scanBound at this; omega) ⟨.int n, H, I.tok _, ⟨_, by rw [p.len]⟩, q⟩
/-- set(list of numbers): the library's own set of numbers -/
def rSetI (X : Cx) : List V → Hp → VK → Prop := fun xs H Q => ∃ (l : Addr) (ns : List Int), xs = [.ref l] ∧ SqL X.K H l (ns.map V.int) ∧ ns.length ≤ 1000 ∧
  ∀ p n, H p = none → n ≤ ns.length → Q (.ref p) (L2.upd H p (SetO X.w p (fun j => decide (j ∈ ns)) n))
theorem inK_setR {P : Program} {w : World} {h : Heap} {a : Addr} {S : Int → Bool} {n : Nat} (x : (inK P w).At h a S n) : SetR w h a S n := by
  obtain ⟨o, es, ep, t, ho, hx, hd, p⟩ := x
  have hk : (inK P w).keys es = es.toList.map keyOf := List.map_congr_left fun e he => by
    obtain ⟨k, u, e1, _⟩ := p.good e he
    unfold keyOf
    rw [e1]
    rfl
  exact ⟨o, es, ep, t, ho, hx, hd, fun e he => by obtain ⟨k, u, e1, e2⟩ := p.good e he; exact ⟨k, u, e1, e2⟩, by rw [← hk]; exact p.nd, fun k => by rw [← hk]; exact p.mem k, p.bd, p.fit, p.len, p.ris, p.led⟩
theorem call_setI (hc : X.calm = true) : CallR X (.type "set") (rSetI X) := by
  intro pins s σ H xs us Q I r h
  obtain ⟨l, ns, rfl, hs, hl, q⟩ := h
  obtain ⟨its, rv, pl, _⟩ := I.list hs
  rw [Vals.ref1 r]
  have hlen : its.toArray.size = ns.length := by rw [List.size_toArray, ← rv.length, List.length_map]
  refine set_of (fill_list (T := inK X.prog X.w) pl.isList hlen (fun i v hv => ?_) (by unfold scanBound; omega)) (I.ok.hd hc) fun h' tk c z1 z2 z3 => ?_
  · have hv : its[i]? = some v := by rw [← hv]; simp
    have hi : i < ns.length := by rw [← hlen]; exact (Array.getElem?_eq_some_iff.mp (by rw [← hv]; simp : its.toArray[i]? = some v)).1
    obtain ⟨t, e⟩ := PyProof.Rows.IntsAre.int_at (ints_of_vals rv) i v hv
    refine ⟨ns[i], t, List.getElem?_eq_getElem hi, ?_⟩
    rw [e, List.getD_eq_getElem?_getD, List.getElem?_eq_getElem hi]
    rfl
  · exact ⟨.ref _, L2.upd H s.heap.objs.size (SetO X.w s.heap.objs.size (fun j => decide (j ∈ ns)) c), I.laid (t' := tk) z3 (Nat.le_refl _) (setO_new (inK_setR z1)), rfl, q _ c (I.hok.fresh (Nat.le_refl _)) z2⟩
/-- list(text): its signs -/
theorem vals_signs : ∀ (l : List Nat) (us : List Value), us.length = l.length → (∀ (j : Nat) (c : Nat), l[j]? = some c → ∃ u, us[j]? = some (Value.str (sg c) u)) → Vals ((l.map sg).map V.str) us
  | [], [], _, _ => .nil
  | [], _ :: _, h, _ => nomatch h
  | _ :: _, [], h, _ => nomatch h
  | c :: l, v :: us, h, hv => by
    obtain ⟨u, e⟩ := hv 0 c rfl
    exact .cons ⟨u, Option.some.inj e⟩ (vals_signs l us (by simpa using h) fun j d hj => hv (j + 1) d hj)
theorem call_listT (hc : X.calm = true) : CallR X (.type "list") (fun xs H Q => ∃ z : Str, xs = [.str z] ∧ z.length ≤ 1000 ∧ ∀ p, H p = none → Q (.ref p) (L2.upd H p (.lst (((TL.tl z).map sg).map V.str)))) := by
  intro pins s σ H xs us Q I r h
  obtain ⟨z, rfl, hz, q⟩ := h
  obtain ⟨u, rfl, t, rfl⟩ := vals1 r
  have hzs : z.cps.size ≤ sizeLine := by rw [sizeLine_eq]; have : z.cps.size = z.length := rfl; omega
  refine call_list_str (I.ok.hd hc) z t (fun h' tk acc c k e hi => ?_) hzs
  have hlen : acc.toList.length = (TL.tl z).length := by rw [Array.length_toList, hi.1]; exact TL.len_tl z
  have hv : Vals (((TL.tl z).map sg).map V.str) acc.toList := vals_signs _ _ hlen fun j d hj => by
    have hj2 : j < acc.size := by rw [← Array.length_toList, hlen]; exact (List.getElem?_eq_some_iff.mp hj).1
    obtain ⟨d', u, h1, h2⟩ := hi.2 j _ (Array.getElem?_eq_getElem hj2)
    have : (TL.tl z)[j]? = some d' := by rw [← h1]; exact Array.getElem?_toList
    rw [hj] at this
    obtain rfl := Option.some.inj this
    exact ⟨u, by rw [Array.getElem?_toList, Array.getElem?_eq_getElem hj2, h2]; rfl⟩
  have hl2 : (((TL.tl z).map sg).map V.str).length ≤ sizeLine := by rw [List.length_map, List.length_map, ← TL.len_tl]; exact hzs
  exact ⟨.ref _, L2.upd H s.heap.objs.size (.lst (((TL.tl z).map sg).map V.str)), I.laid (t' := tk) k (Nat.le_refl _) ⟨hl2, acc.toList, c, hv, e⟩, rfl, q _ (I.hok.fresh (Nat.le_refl _))⟩
end
end Vf
set_option Elab.async false
set_option linter.all false
set_option maxRecDepth 100000
set_option maxHeartbeats 4000000
/-! rows of numbers as data; what sorted(set(..)) makes of numbers -/
namespace Vf
open PySem L2 PyProof.Rows
def rowsIT (gs : List (List Int)) : PyData := .tuple (gs.map intsT)
def rowsID (gs : List (List Int)) : PyData := .list (gs.map intsD)
theorem eqv_rowsIT (x y : List (List Int)) : PyData.eqv (rowsIT x) (rowsIT y) = decide (x = y) := by
  show PyData.eqv (.tuple (x.map intsT)) (.tuple (y.map intsT)) = _
  rw [PyData.eqv]; exact eqvAll_inj eqv_intsT x y
theorem lay_rowsIT (x : List (List Int)) : PyData.canLay0 (rowsIT x) = true := by rw [rowsIT, PyData.canLay0]; exact lay_all lay_intsT x
theorem dep_rowsIT (x : List (List Int)) : PyData.depth (rowsIT x) ≤ 2 := by rw [rowsIT, PyData.depth]; have := depth_all dep_intsT x; omega
theorem shaped_rowsIT (x : List (List Int)) : SeqAt.shaped (rowsIT x) = true := shaped_of (lay_rowsIT x) (dep_rowsIT x) (by decide)
/-- rows of goals, as lists or as tuples -/
def RwsI (K : PySem.W.Frag) (H : Hp) (R : V) (gs : List (List Int)) : Prop := Dp K H R (rowsID gs) ∨ Dp K H R (rowsIT gs)
theorem RwsI.mv {K : PySem.W.Frag} {H H' : Hp} {R : V} {gs : List (List Int)} (h : RwsI K H R gs) (k : Kl H H') : RwsI K H' R gs := h.imp (fun h => h.mv k) (fun h => h.mv k)
theorem RwsI.at {K : PySem.W.Frag} {H : Hp} {R : V} {gs : List (List Int)} (h : RwsI K H R gs) : ∃ r xs, R = .ref r ∧ Sq K H r xs ∧ xs.length = gs.length ∧
    ∀ (i : Nat) (hi : i < gs.length) (x : V), xs[i]? = some x → ∃ w, x = .ref w ∧ Sq K H w (gs[i].map V.int) := by
  rcases h with h | h
  · obtain ⟨r, xs, rfl, h1, h2⟩ := h.listE
    refine ⟨r, xs, rfl, Or.inl h1, by rw [h2.length, List.length_map], fun i hi x hx => ?_⟩
    obtain ⟨v, hv, hrow⟩ := h2.get (i := i) (d := intsD gs[i]) (by rw [List.getElem?_map, List.getElem?_eq_getElem hi]; rfl)
    obtain rfl : x = v := Option.some.inj (hx.symm.trans hv)
    obtain ⟨w, ts, rfl, hw1, hw2⟩ := hrow.listE
    obtain rfl := dpAll_intsE hw2
    exact ⟨w, rfl, Or.inl hw1⟩
  · obtain ⟨r, xs, rfl, h1, h2⟩ := h.tupE
    refine ⟨r, xs, rfl, Or.inr h1, by rw [h2.length, List.length_map], fun i hi x hx => ?_⟩
    obtain ⟨v, hv, hrow⟩ := h2.get (i := i) (d := intsT gs[i]) (by rw [List.getElem?_map, List.getElem?_eq_getElem hi]; rfl)
    obtain rfl : x = v := Option.some.inj (hx.symm.trans hv)
    obtain ⟨w, ts, rfl, hw1, hw2⟩ := hrow.tupE
    obtain rfl := dpAll_intsE hw2
    exact ⟨w, rfl, Or.inr hw1⟩
/-- ascending, each once -/
def Up (es : List Int) : Prop := es.Pairwise (· < ·)
theorem up_ext : ∀ {a b : List Int}, Up a → Up b → (∀ x, x ∈ a ↔ x ∈ b) → a = b
  | [], [], _, _, _ => rfl
  | [], y :: _, _, _, h => nomatch (h y).mpr List.mem_cons_self
  | x :: _, [], _, _, h => nomatch (h x).mp List.mem_cons_self
  | x :: a, y :: b, ha, hb, h => by
    obtain ⟨ha1, ha2⟩ := List.pairwise_cons.mp ha
    obtain ⟨hb1, hb2⟩ := List.pairwise_cons.mp hb
    have e : x = y := by
      rcases List.mem_cons.mp ((h x).mp List.mem_cons_self) with q | q
      · exact q
      · rcases List.mem_cons.mp ((h y).mpr List.mem_cons_self) with r | r
        · exact r.symm
        · have h1 := hb1 x q
          have h2 := ha1 y r
          omega
    subst e
    rw [up_ext ha2 hb2 fun z => ?_]
    constructor
    · intro q
      rcases List.mem_cons.mp ((h z).mp (List.mem_cons_of_mem _ q)) with r | r
      · have := ha1 z q; omega
      · exact r
    · intro q
      rcases List.mem_cons.mp ((h z).mpr (List.mem_cons_of_mem _ q)) with r | r
      · have := hb1 z q; omega
      · exact r
end Vf
set_option Elab.async false
set_option linter.all false
set_option maxRecDepth 100000
set_option maxHeartbeats 4000000
namespace Vf
open PySem L2 PyProof.Rows
structure TxtC (K : PySem.W.Frag) (mg : Str → Option Value) (B CB fB' : Addr) : Prop where
  len : mg "len" = none
  any : mg "any" = none
  tuple : mg "tuple" = none
  enumerate : mg "enumerate" = none
  sorted : mg "sorted" = none
  set : mg "set" = none
  base : BaseT K mg "CodeError" B
  bc : ErrT K mg "BadCode" "state" CB fB'
section
variable {P : Program} {w : World} {K : PySem.W.Frag} {mg : Str → Option Value} {base : Heap}
abbrev s_BadCode___init__ : Stmt := inClass (top 3) 0
abbrev N_BadCode___init__ : List Str := ["self", "state"]
abbrev P_BadCode___init__ : List Str := ["self", "state"]
theorem sc_BadCode___init__ : FnScope N_BadCode___init__ P_BadCode___init__ (defScope s_BadCode___init__) := ⟨rfl, rfl, rfl, by decide +kernel, rfl, by decide +kernel, by decide +kernel⟩

theorem ok_bc {f B C fI : Addr} {fd : FuncData} (F : Fun K "__init__" "BadCode.__init__" s_BadCode___init__ f fd) (Tb : BaseT K mg "CodeError" B) (T : ErrT K mg "BadCode" "state" C fI) : FnOk P w K mg base CX0 1 f fd P_BadCode___init__ (spErr C "state") := by
  refine F.ok sc_BadCode___init__ (fun vs H Q E h => ?_) (fun cdv A outer s H vs Q E hr h => ?_)
  · obtain ⟨a, v, rfl, _⟩ := h
    rfl
  · obtain ⟨a, v, rfl, ha, k⟩ := h
    refine ⟨_, pss_cons (ps_expr (pe_clsinit Tb (by rfl) (pa_cons (pv 0) (pa_cons pe_str pa_nil)))) (pss_one (ps_ost (pv 0) (pv 1))), ?_⟩
    refine ⟨_, rfl, a, C, _, rfl, by show 1 ≤ 1000; decide, T.oex, ha, ?_⟩
    exact ⟨_, rfl, _, rfl, a, C, rfl, T.oex, T.nf, Or.inl ⟨ha, fun d h1 h2 => k d h1 h2⟩⟩
/-- the errors that leave: BadCode with its state -/
def EBC (CB : Addr) (H : Hp) (E : XK) (i : Int) : Prop := ∀ d H', Raised H H' d "state" (.int i) → E (.ref CB) (some d) H'
theorem Raised.after {H H1 H' : Hp} {d : Addr} {f : Str} {v : V} (s : Same H H1) (r : Raised H1 H' d f v) : Raised H H' d f v := ⟨s.free r.1, r.2.1, s.trans r.2.2⟩
/-- a row that is wrong, of a shape with n states over m values -/
def badG (m n : Nat) (r : List Int) : Prop := r.length ≠ m ∨ ∃ g ∈ r, ¬ (0 ≤ g ∧ g < n)
def BadRow (m : Nat) (gs : List (List Int)) (i : Nat) : Prop :=
  (∃ h : i < gs.length, badG m gs.length gs[i] ∧ ∀ (j : Nat) (hj : j < i), ¬ badG m gs.length gs[j]) ∨ (i = 0 ∧ gs.length = 0)
def GoodRows (m : Nat) (gs : List (List Int)) : Prop := (∀ (j : Nat) (hj : j < gs.length), ¬ badG m gs.length gs[j]) ∧ 0 < gs.length
def okG (n : Int) (g : Int) : Bool := !(decide (0 ≤ g) && decide (g < n))
theorem okG_any {n : Nat} {r : List Int} : (r.map (okG n)).any id = true ↔ ∃ g ∈ r, ¬ (0 ≤ g ∧ g < n) := by
  rw [List.any_eq_true]
  constructor
  · rintro ⟨b, hb, e⟩
    obtain ⟨g, hg, rfl⟩ := List.mem_map.mp hb
    refine ⟨g, hg, fun h => ?_⟩
    have e : okG n g = true := e
    unfold okG at e
    rw [decide_eq_true h.1, decide_eq_true h.2] at e
    exact Bool.noConfusion e
  · rintro ⟨g, hg, h⟩
    refine ⟨okG n g, List.mem_map.mpr ⟨g, hg, rfl⟩, ?_⟩
    show okG n g = true
    unfold okG
    by_cases h0 : 0 ≤ g
    · have h1 : ¬ g < n := fun q => h ⟨h0, q⟩
      rw [decide_eq_false h1, Bool.and_false]; rfl
    · rw [decide_eq_false h0]; rfl
def spGoals (K : PySem.W.Frag) (CB : Addr) : Sp := fun vs H Q E => ∃ (z : Str) (R : V) (gs : List (List Int)), vs = [.str z, R] ∧ RwsI K H R gs ∧ z.length ≤ 26 ∧ gs.length ≤ 100 ∧ (∀ r ∈ gs, r.length ≤ 100) ∧
  (GoodRows z.length gs → ∀ H', Same H H' → Q .non H') ∧ (∀ i : Nat, BadRow z.length gs i → EBC CB H E i)
abbrev s_check_goals : Stmt := top 13
abbrev N_check_goals : List Str := ["values", "rows", "many", "state", "row", "goal"]
abbrev P_check_goals : List Str := ["values", "rows"]
theorem sc_check_goals : FnScope N_check_goals P_check_goals (defScope s_check_goals) := ⟨rfl, rfl, rfl, by decide +kernel, rfl, by decide +kernel, by decide +kernel⟩

theorem ok_goals {f B CB fB' : Addr} {fd fdB : FuncData} (F : Fun K "check_goals" "check_goals" s_check_goals f fd) (T : TxtC K mg B CB fB') (FB' : Fun K "__init__" "BadCode.__init__" s_BadCode___init__ fB' fdB) (bB' : Binds K fdB P_BadCode___init__ []) : FnOk P w K mg base (L2.CX P w) 3 f fd P_check_goals (spGoals K CB) := by
  have GB' : FnOk P w K mg base CX0 1 fB' fdB P_BadCode___init__ (spErr CB "state") := ok_bc FB' T.base T.bc
  refine F.okX sc_check_goals (fun vs H Q E h => ?_) (fun cdv A outer s H vs Q E hr h => ?_)
  · obtain ⟨z, R, gs, rfl, _⟩ := h
    rfl
  · obtain ⟨z, R, gs, rfl, hR, hz, hl, hrl, kq, ke⟩ := h
    refine ⟨_, (pss_cons (ps_set (i := 2) sc_check_goals.nd rfl (Or.inr rfl) (pe_callB call_len (by rfl) T.len PySem.boot_len (pa_cons (pv 1) pa_nil)))
      (pss_cons (ps_for (passes_of rfl) rfl (pi_enumX (by rfl) T.enumerate (pa_cons (pv 1) pa_nil)) (pg_tup (by rfl) (pgs_cons (pg_name (i := 3) sc_check_goals.nd rfl (Or.inl rfl)) (pgs_cons (pg_name (i := 4) sc_check_goals.nd rfl (Or.inl rfl)) pgs_nil))) (pss_one (ps_if (PW.pt (pw_or (pt_cmpR op_ne (pe_callB call_len (by rfl) T.len PySem.boot_len (pa_cons (pv 4) pa_nil)) (pe_callB call_len (by rfl) T.len PySem.boot_len (pa_cons (pv 0) pa_nil)) (nomark _)) (pw_or1 (pt_val (pe_callB (cr_any rfl) (by rfl) T.any boot_any (pa_cons (pe_lc (own := [("goal", 5)]) (g := gName 5) (by rfl) sc_check_goals.nd (pi_seq (K := K) rfl (pv 4)) (blkOk_by (own := [("goal", 5)]) (N := N_check_goals) (sc := defScope s_check_goals) (by decide +kernel)) (fun _ _ _ _ _ => pg_name (i := 5) sc_check_goals.nd rfl (Or.inl rfl)) (fun _ _ _ _ _ => pts_nil) (fun _ _ _ _ _ => (pe_not (pe_chain op_le op_lt pe_int (pv 5) (pv 2))))) pa_nil)))))) (pss_one (ps_raise rfl (takes_of rfl rfl rfl rfl) (pmk_oex T.bc.oex T.bc.iC T.bc.tI GB' (hr.mono (by decide)) bB' .nil pass0 (by rfl) T.bc.g (pa_cons (pv 3) pa_nil)))) pss_nil)))
      (pss_one (ps_if (pt_cmpR op_eq (pv 2) pe_int (nomark _)) (pss_one (ps_raise rfl (takes_of rfl rfl rfl rfl) (pmk_oex T.bc.oex T.bc.iC T.bc.tI GB' (hr.mono (by decide)) bB' .nil pass0 (by rfl) T.bc.g (pa_cons pe_int pa_nil)))) pss_nil)))), ?_⟩
    obtain ⟨r, xs, rfl, hr1, lr, hrow⟩ := hR.at
    have hzs : z.length ≤ sizeLine := Nat.le_of_lt (small1000 (by omega))
    refine ⟨_, rfl, _, _, rfl, hr1.len, ?_⟩
    refine ⟨_, rfl, r, xs, rfl, hr1, fun J hJ => for_it hJ (fun i σ H1 => ∃ v3 v4 v5 : Option V, σ = [some (.str z), some (.ref r), some (.int xs.length), v3, v4, v5] ∧ Same H H1 ∧ ∀ (j : Nat) (hj : j < gs.length), j < i → ¬ badG z.length gs.length gs[j])
      ⟨none, none, none, rfl, Same.refl H, fun j _ h => absurd h (Nat.not_lt_zero _)⟩ (fun i σ H1 _ ⟨_, _, _, _, s1, _⟩ => GSq.same s1) ?_ ?_⟩
    · rintro i x σ H1 H2 hi ⟨v3, v4, v5, rfl, s1, hj⟩ ⟨q, b, rfl, hq, rfl, hb⟩
      have hi' : i < gs.length := by omega
      obtain ⟨w5, rfl, hw1⟩ := hrow i hi' b hb
      have hri := hrl _ (List.getElem_mem hi')
      have s2 : Same H (L2.upd H1 q (.tup [.int i, .ref w5])) := s1.trans (same_new hq)
      refine ⟨q, _, rfl, SqT.of upd_same, rfl, _, _, rfl, _, _, rfl, rfl, ?_⟩
      generalize L2.upd H1 q (.tup [.int i, .ref w5]) = H3 at s2
      refine ⟨_, rfl, _, _, rfl, (hw1.same s2).len, _, rfl, _, _, rfl, ⟨hzs, rfl⟩, rfl, _, rfl, ?_⟩
      refine ite2 (fun c1 => ?_) (fun c1 => ?_)
      · have c1 : gs[i].length ≠ z.length := by simp at c1; omega
        have hbad : BadRow z.length gs i := Or.inl ⟨hi', Or.inl c1, fun j hj' => hj j (by omega) hj'⟩
        refine ⟨_, rfl, by show 1 ≤ 1000; decide, fun a ha => ⟨a, _, rfl, upd_same, fun d hd hda => ⟨rfl, d, [("state", V.int i)], upd_same, ?_, ?_, ?_⟩⟩⟩
        · rw [upd_ne hda, upd_same]
        · rw [upd_ne hda] at hd; exact hd
        · rw [upd_ne hda] at hd
          exact ke i hbad d _ ((raised_of ha hd hda).after s2)
      have c1 : gs[i].length = z.length := by simp at c1; omega
      refine ⟨_, rfl, w5, gs[i].map V.int, rfl, hw1.same s2, fun J2 hJ2 D hD => lc_it hJ2 (fun j H4 => H4 D = some (.lst (((gs[i].take j).map (okG xs.length)).map V.bl)) ∧ Same H3 H4)
        ⟨upd_same, same_new hD⟩ (fun j H4 _ ⟨_, s4⟩ => GSq.same s4) ?_ ?_⟩
      · rintro j x H4' H4 hjt ⟨hD4, s4⟩ ⟨rfl, hx⟩
        have hj' : j < gs[i].length := by rw [List.length_map] at hjt; exact hjt
        obtain rfl : V.int (gs[i][j]) = x := by
          rw [List.getElem?_map, List.getElem?_eq_getElem hj'] at hx
          exact Option.some.inj hx
        refine ⟨rfl, ?_⟩
        refine lcYes ?_
        have hlen : (((gs[i].take j).map (okG xs.length)).map V.bl).length < sizeLine := by
          rw [List.length_map, List.length_map, List.length_take]; exact small1000 (by omega)
        have ee : ∀ v : V, v = .bl (okG xs.length (gs[i][j])) → L2.upd H4 D (.lst (((gs[i].take j).map (okG xs.length)).map V.bl ++ [v])) D = some (.lst (((gs[i].take (j + 1)).map (okG xs.length)).map V.bl)) := fun v hv => by
          rw [upd_same, take_more hj', List.map_append, List.map_append, hv]; rfl
        refine ⟨_, rfl, _, _, rfl, rfl, _, rfl, ?_⟩
        by_cases g0 : 0 ≤ gs[i][j]
        · rw [if_pos (decide_eq_true g0)]
          refine ⟨_, rfl, _, _, rfl, rfl, _, rfl, _, hD4, hlen, ee _ ?_, s4.put hD⟩
          unfold okG
          rw [decide_eq_true g0, Bool.true_and]
        · rw [if_neg (by simpa using g0)]
          refine ⟨_, rfl, _, hD4, hlen, ee _ ?_, s4.put hD⟩
          unfold okG
          rw [decide_eq_false g0]; rfl
      · rintro H4 ⟨hD4, s4⟩
        rw [List.length_map, List.take_length] at hD4
        refine ⟨D, _, rfl, SqL.of hD4, _, rfl, ite2 (fun c3 => ?_) (fun c3 => ?_)⟩
        · have c3 : ∃ g ∈ gs[i], ¬ (0 ≤ g ∧ g < gs.length) := okG_any.mp (by rw [lr] at c3; exact c3)
          have hbad : BadRow z.length gs i := Or.inl ⟨hi', Or.inr c3, fun j hj' => hj j (by omega) hj'⟩
          have s5 : Same H H4 := s2.trans s4
          refine ⟨_, rfl, by show 1 ≤ 1000; decide, fun a ha => ⟨a, _, rfl, upd_same, fun d hd hda => ⟨rfl, d, [("state", V.int i)], upd_same, ?_, ?_, ?_⟩⟩⟩
          · rw [upd_ne hda, upd_same]
          · rw [upd_ne hda] at hd; exact hd
          · rw [upd_ne hda] at hd
            exact ke i hbad d _ ((raised_of ha hd hda).after s5)
        · refine ⟨_, _, _, rfl, s2.trans s4, fun j hjl hji => ?_⟩
          by_cases e : j = i
          · subst e
            rintro (h | h)
            · exact h c1
            · exact c3 (by rw [lr]; exact okG_any.mpr h)
          · exact hj j hjl (by omega)
    · rintro σ H1 ⟨v3, v4, v5, rfl, s1, hj⟩
      have hj : ∀ (j : Nat) (hj : j < gs.length), ¬ badG z.length gs.length gs[j] := fun j h => hj j h (by omega)
      refine ⟨_, rfl, rfl, _, rfl, ite2 (fun c1 => ?_) (fun c1 => ?_)⟩
      · have c1 : xs.length = 0 := by simpa using c1
        refine ⟨by show 1 ≤ 1000; decide, fun a ha => ⟨a, _, rfl, upd_same, fun d hd hda => ⟨rfl, d, [("state", V.int 0)], upd_same, ?_, ?_, ?_⟩⟩⟩
        · rw [upd_ne hda, upd_same]
        · rw [upd_ne hda] at hd; exact hd
        · rw [upd_ne hda] at hd
          exact ke 0 (Or.inr ⟨rfl, by omega⟩) d _ ((raised_of ha hd hda).after s1)
      have c1 : xs.length ≠ 0 := by simpa using c1
      exact kq ⟨hj, by omega⟩ _ s1
def spGood (K : PySem.W.Frag) (CB : Addr) : Sp := fun vs H Q E => ∃ (a : Addr) (es : List Int) (n : Nat), vs = [.ref a, .int n] ∧ Sq K H a (es.map V.int) ∧ es.length ≤ 1000 ∧
  ((∀ e ∈ es, 0 ≤ e ∧ e < n) → ∀ H', Same H H' → Q .non H') ∧ (∀ (i : Nat) (h : i < es.length), ¬ (0 ≤ es[i] ∧ es[i] < n) → (∀ j (hj : j < i), 0 ≤ es[j] ∧ es[j] < n) → EBC CB H E es[i])
abbrev s_check_good : Stmt := top 14
abbrev N_check_good : List Str := ["good", "many", "state"]
abbrev P_check_good : List Str := ["good", "many"]
theorem sc_check_good : FnScope N_check_good P_check_good (defScope s_check_good) := ⟨rfl, rfl, rfl, by decide +kernel, rfl, by decide +kernel, by decide +kernel⟩

theorem ok_good {f B CB fB' : Addr} {fd fdB : FuncData} (F : Fun K "check_good" "check_good" s_check_good f fd) (T : TxtC K mg B CB fB') (FB' : Fun K "__init__" "BadCode.__init__" s_BadCode___init__ fB' fdB) (bB' : Binds K fdB P_BadCode___init__ []) : FnOk P w K mg base (L2.CX P w) 3 f fd P_check_good (spGood K CB) := by
  have GB' : FnOk P w K mg base CX0 1 fB' fdB P_BadCode___init__ (spErr CB "state") := ok_bc FB' T.base T.bc
  refine F.okX sc_check_good (fun vs H Q E h => ?_) (fun cdv A outer s H vs Q E hr h => ?_)
  · obtain ⟨a, es, n, rfl, _⟩ := h
    rfl
  · obtain ⟨a, es, n, rfl, ha, hl, kq, ke⟩ := h
    refine ⟨_, (pss_one (ps_for (passes_of rfl) rfl (pi_seq (K := K) rfl (pv 0)) (pg_name (i := 2) sc_check_good.nd rfl (Or.inl rfl)) (pss_one (ps_if (pt_not (pt_chain op_le op_lt pe_int (pv 2) (pv 1))) (pss_one (ps_raise rfl (takes_of rfl rfl rfl rfl) (pmk_oex T.bc.oex T.bc.iC T.bc.tI GB' (hr.mono (by decide)) bB' .nil pass0 (by rfl) T.bc.g (pa_cons (pv 2) pa_nil)))) pss_nil)))), ?_⟩
    refine ⟨_, rfl, a, _, rfl, ha, fun J hJ => for_it hJ (fun i σ H1 => ∃ v2 : Option V, σ = [some (.ref a), some (.int n), v2] ∧ Same H H1 ∧ ∀ (j : Nat) (hj : j < es.length), j < i → 0 ≤ es[j] ∧ es[j] < n)
      ⟨none, rfl, Same.refl H, fun j _ h => absurd h (Nat.not_lt_zero _)⟩ (fun i σ H1 _ ⟨_, _, s1, _⟩ => GSq.same s1) ?_ ?_⟩
    · rintro i x σ H2 H1 hi ⟨v2, rfl, s1, hj⟩ ⟨rfl, hx⟩
      have hi' : i < es.length := by rw [List.length_map] at hi; exact hi
      obtain rfl : V.int (es[i]) = x := by
        rw [List.getElem?_map, List.getElem?_eq_getElem hi'] at hx
        exact Option.some.inj hx
      refine ⟨_, rfl, _, _, rfl, rfl, _, rfl, ?_⟩
      have good : (0 ≤ es[i] ∧ es[i] < n) → ∀ (j : Nat) (hj : j < es.length), j < i + 1 → 0 ≤ es[j] ∧ es[j] < n := fun g j hjl hji => by
        by_cases e : j = i
        · subst e; exact g
        · exact hj j hjl (by omega)
      have bad : ¬ (0 ≤ es[i] ∧ es[i] < n) → EBC CB H E es[i] := fun g => ke i hi' g fun j hj' => hj j (by omega) hj'
      have rs : ¬ (0 ≤ es[i] ∧ es[i] < n) → tMkO CB (spErr CB "state") [] (tCons (tVar 2) tNil) [some (.ref a), some (.int n), some (.int es[i])] H1 (fun cls d H' => E cls d H') := fun g => by
        refine ⟨_, rfl, by show 1 ≤ 1000; decide, fun a ha => ⟨a, _, rfl, upd_same, fun d hd hda => ⟨rfl, d, [("state", V.int es[i])], upd_same, ?_, ?_, ?_⟩⟩⟩
        · rw [upd_ne hda, upd_same]
        · rw [upd_ne hda] at hd; exact hd
        · rw [upd_ne hda] at hd
          exact bad g d _ ((raised_of ha hd hda).after s1)
      by_cases g0 : 0 ≤ es[i]
      · rw [if_pos (decide_eq_true g0)]
        refine ⟨_, rfl, _, _, rfl, rfl, _, rfl, ?_⟩
        by_cases g1 : es[i] < n
        · refine ite2 (fun c => absurd c ?_) (fun _ => ?_)
          · rw [decide_eq_true g1]; decide
          · exact ⟨_, rfl, s1, good ⟨g0, g1⟩⟩
        · refine ite2 (fun _ => rs fun q => g1 q.2) (fun c => absurd ?_ c)
          rw [decide_eq_false g1]; decide
      · rw [if_neg (by simpa using g0)]
        refine ⟨_, rfl, ?_⟩
        exact ite2 (fun _ => rs fun q => g0 q.1) (fun c => absurd rfl c)
    · rintro σ H1 ⟨v2, rfl, s1, hj⟩
      refine kq (fun e he => ?_) _ s1
      obtain ⟨j, hjl, rfl⟩ := List.getElem_of_mem he
      exact hj j hjl (by rw [List.length_map]; exact hjl)
end
end Vf
set_option Elab.async false
set_option linter.all false
set_option maxRecDepth 100000
set_option maxHeartbeats 4000000
namespace Vf
open PySem L2 PyProof.Rows
theorem kLR : ¬ (("letters" : Str) = "rows") := by decide +kernel
theorem kLG : ¬ (("letters" : Str) = "good") := by decide +kernel
theorem kRG : ¬ (("rows" : Str) = "good") := by decide +kernel
/-- a shape's attributes -/
def sflds (z : Str) (R E : V) : List (Str × V) := putF "good" E (putF "rows" R (putF "letters" (.str z) []))
theorem sf_letters (z : Str) (R E : V) : (sflds z R E).lookup ("letters" : Str) = some (.str z) := by
  unfold sflds
  rw [lookup_putF, if_neg kLG, lookup_putF, if_neg kLR, lookup_putF, if_pos rfl]
theorem sf_rows (z : Str) (R E : V) : (sflds z R E).lookup ("rows" : Str) = some R := by
  unfold sflds
  rw [lookup_putF, if_neg kRG, lookup_putF, if_pos rfl]
theorem sf_good (z : Str) (R E : V) : (sflds z R E).lookup ("good" : Str) = some E := by
  unfold sflds
  rw [lookup_putF, if_pos rfl]
theorem sf_no (z : Str) (R E : V) {m : Str} (h1 : ¬ m = "letters") (h2 : ¬ m = "rows") (h3 : ¬ m = "good") : (sflds z R E).lookup m = none := by
  unfold sflds
  rw [lookup_putF, if_neg h3, lookup_putF, if_neg h2, lookup_putF, if_neg h1]
  rfl
/-- a shape's object -/
def ShapeAt (K : PySem.W.Frag) (C : Addr) (H : Hp) (o : Addr) (z : Str) (gs : List (List Int)) (es : List Int) : Prop :=
  ∃ dx R E, H o = some (.ins C dx (sflds z R E)) ∧ Dp K H R (rowsIT gs) ∧ Dp K H E (intsT es)
/-- what is asked of the class -/
structure TxtS (K : PySem.W.Frag) (mg : Str → Option Value) (C fCG fCD B CB fB' : Addr) : Prop extends TxtC K mg B CB fB' where
  cl : Cls K C
  nL : NoAttr K C "letters"
  nR : NoAttr K C "rows"
  nG : NoAttr K C "good"
  mgShape : mg "Shape" = some (.ref C)
  mcheck_goals : mg "check_goals" = some (.ref fCG)
  kcheck_goals : PySem.W.keepIn K (.ref fCG) = true
  mcheck_good : mg "check_good" = some (.ref fCD)
  kcheck_good : PySem.W.keepIn K (.ref fCD) = true
/-- Shape(..), right or wrong; what was there stays -/
def spInitS (K : PySem.W.Frag) (C CB : Addr) : Sp := fun vs H Q E' => ∃ (o dx : Addr) (z : Str) (R : V) (g : Addr) (gs : List (List Int)) (es : List Int), vs = [.ref o, .str z, R, .ref g] ∧ H o = some (.ins C dx []) ∧ RwsI K H R gs ∧ SqL K H g (es.map V.int) ∧ z.length ≤ 26 ∧ gs.length ≤ 100 ∧ es.length < 64 ∧ (∀ r ∈ gs, r.length ≤ 100) ∧
  (GoodRows z.length gs → (∀ e ∈ es, 0 ≤ e ∧ e < (gs.length : Nat)) → ∀ H' es', Up es' → (∀ x, x ∈ es' ↔ x ∈ es) → ShapeAt K C H' o z gs es' → (∀ b u, H b = some u → b ≠ o → H' b = some u) → Q .non H') ∧
  (∀ i, BadRow z.length gs i → EBC CB H E' i) ∧ (GoodRows z.length gs → ∀ (i : Nat) (h : i < es.length), ¬ (0 ≤ es[i] ∧ es[i] < (gs.length : Nat)) → (∀ j (hj : j < i), 0 ≤ es[j] ∧ es[j] < (gs.length : Nat)) → EBC CB H E' es[i])
theorem EBC.aft {CB : Addr} {H H1 : Hp} {E : XK} {i : Int} (s : Same H H1) (e : EBC CB H E i) : EBC CB H1 E i := fun d H' r => e d H' (r.after s)
section
variable {P : Program} {w : World} {K : PySem.W.Frag} {mg : Str → Option Value} {base : Heap}
abbrev s_Shape___init__ : Stmt := inClass (top 12) 0
abbrev N_Shape___init__ : List Str := ["self", "values", "rows", "good", "row"]
abbrev P_Shape___init__ : List Str := ["self", "values", "rows", "good"]
theorem sc_Shape___init__ : FnScope N_Shape___init__ P_Shape___init__ (defScope s_Shape___init__) := ⟨rfl, rfl, rfl, by decide +kernel, rfl, by decide +kernel, by decide +kernel⟩

theorem ok_initS {f fCG fCD C B CB fB' : Addr} {fd fdCG fdCD fdB : FuncData} (F : Fun K "__init__" "Shape.__init__" s_Shape___init__ f fd) (T : TxtS K mg C fCG fCD B CB fB') (FCG : Fun K "check_goals" "check_goals" s_check_goals fCG fdCG) (bcheck_goals : Binds K fdCG P_check_goals [])
    (FCD : Fun K "check_good" "check_good" s_check_good fCD fdCD) (bcheck_good : Binds K fdCD P_check_good [])
    (FB' : Fun K "__init__" "BadCode.__init__" s_BadCode___init__ fB' fdB) (bB' : Binds K fdB P_BadCode___init__ []) : FnOk P w K mg base (L2.CX P w) 4 f fd P_Shape___init__ (spInitS K C CB) := by
  have Gcheck_goals : FnOk P w K mg base (L2.CX P w) 3 fCG fdCG P_check_goals (spGoals K CB) := ok_goals FCG T.toTxtC FB' bB'
  have Gcheck_good : FnOk P w K mg base (L2.CX P w) 3 fCD fdCD P_check_good (spGood K CB) := ok_good FCD T.toTxtC FB' bB'
  refine F.okX sc_Shape___init__ (fun vs H Q E h => ?_) (fun cdv A outer s H vs Q E' hr h => ?_)
  · obtain ⟨o, dx, z, R, g, gs, es, rfl, _⟩ := h
    rfl
  · obtain ⟨o, dx, z, R, g, gs, es, rfl, ho, hR, hg, hz, hl, hel, hrl, kq, ke, ke2⟩ := h
    refine ⟨_, (pss_cons (ps_expr (pe_call Gcheck_goals (hr.mono (by decide)) (by rfl) T.mcheck_goals T.kcheck_goals bcheck_goals .nil (passes_call (takes_of rfl rfl rfl rfl) (fun _ _ _ _ h => h)) (pa_cons (pv 1) (pa_cons (pv 2) pa_nil))))
      (pss_cons (ps_expr (pe_call Gcheck_good (hr.mono (by decide)) (by rfl) T.mcheck_good T.kcheck_good bcheck_good .nil (passes_call (takes_of rfl rfl rfl rfl) (fun _ _ _ _ h => h)) (pa_cons (pv 3) (pa_cons (pe_callB call_len (by rfl) T.len PySem.boot_len (pa_cons (pv 2) pa_nil)) pa_nil))))
      (pss_cons (ps_fld (pv 0) (pv 1) rfl)
      (pss_cons (ps_fld (pv 0) (pe_callTy call_tuple_of (by rfl) T.tuple boot_tuple (pa_cons (pe_lc (own := [("row", 4)]) (g := gName 4) (by rfl) sc_Shape___init__.nd (pi_seq (K := K) rfl (pv 2)) (blkOk_by (own := [("row", 4)]) (N := N_Shape___init__) (sc := defScope s_Shape___init__) (by decide +kernel)) (fun _ _ _ _ _ => pg_name (i := 4) sc_Shape___init__.nd rfl (Or.inl rfl)) (fun _ _ _ _ _ => pts_nil) (fun _ _ _ _ _ => (pe_callTy (call_tupleK (K := K) rfl) (by rfl) T.tuple boot_tuple (pa_cons (pv 4) pa_nil)))) pa_nil)) rfl)
      (pss_one (ps_fld (pv 0) (pe_callTy call_tuple_of (by rfl) T.tuple boot_tuple (pa_cons (pe_callB (cr_sortedSet rfl) (by rfl) T.sorted boot_sorted (pa_cons (pe_callTy (call_setI rfl) (by rfl) T.set (by decide +kernel) (pa_cons (pv 3) pa_nil)) pa_nil)) pa_nil)) rfl)))))), ?_⟩
    refine ⟨_, rfl, _, rfl, z, R, gs, rfl, hR, hz, hl, hrl, fun hok H0 s0 => ?_, fun i hb => ke i hb⟩
    obtain ⟨r, xs, rfl, hr1, lr, hrow⟩ := hR.at
    refine ⟨_, rfl, _, rfl, _, _, rfl, (hr1.same s0).len, ?_⟩
    refine ⟨g, es, gs.length, ?_, Or.inl ((Kl.same s0).seq hg), by omega, fun hgood H1 s1' => ?_, fun i hi hb hj => (ke2 hok i hi hb hj).aft s0⟩
    · show [V.ref g, V.int (xs.length : Nat)] = _
      rw [lr]
    have k := kq hok hgood
    have s1 := s0.trans s1'
    clear s0 s1'
    have ho1 := s1 _ _ ho
    -- self.letters = values
    refine ⟨_, rfl, _, rfl, o, C, dx, [], rfl, ho1, T.cl, T.nL, (by show 0 < 1000; decide), ?_⟩
    have k2 : ∀ b u, H b = some u → b ≠ o → (L2.upd H1 o (.ins C dx (putF "letters" (.str z) []))) b = some u := fun b u h n => by rw [upd_ne n]; exact s1 b u h
    have ho2 : (L2.upd H1 o (.ins C dx (putF "letters" (.str z) []))) o = some (.ins C dx (putF "letters" (.str z) [])) := upd_same
    revert k2 ho2
    generalize L2.upd H1 o (.ins C dx (putF "letters" (.str z) [])) = H2
    intro k2 ho2
    have kl2 : Kl H H2 := fun b u h d => k2 b u h fun q => by rw [q, ho] at h; cases h; exact d
    -- self.rows = ..
    refine ⟨_, rfl, r, xs, rfl, hr1.kl kl2, fun J hJ D hD => lc_it hJ (fun i H4 => ∃ vs : List V, H4 D = some (.lst vs) ∧ DpAll K (L2.del H4 D) vs ((gs.take i).map intsT) ∧ Same H2 H4)
      ⟨[], upd_same, .nil, same_new hD⟩ (fun i H4 _ ⟨_, _, _, s4⟩ => GSq.same s4) ?_ ?_⟩
    · rintro i x H4' H4 hi ⟨vs, hD4, hd4, s4⟩ ⟨rfl, hx⟩
      have hi' : i < gs.length := by omega
      obtain ⟨w5, rfl, hw1⟩ := hrow i hi' x hx
      have hri := hrl _ (List.getElem_mem hi')
      have kl4 : Kl H H4 := kl2.trans (Kl.same s4)
      refine ⟨rfl, ?_⟩
      refine lcYes ?_
      have hvl : vs.length < sizeLine := by rw [hd4.length, List.length_map, List.length_take]; exact small1000 (by omega)
      rcases hw1 with hw1 | hw1
      · refine ⟨_, rfl, w5, _, rfl, Or.inl ⟨kl4.seq hw1, fun t ht => ⟨vs, ?_, hvl, vs ++ [.ref t], upd_same, ?_, ?_⟩⟩⟩
        · rw [upd_ne (ne_of_none hD4 ht)]; exact hD4
        · have ntD : t ≠ D := (ne_of_none hD4 ht).symm
          have e0 : Kl (L2.del H4 D) (L2.del (L2.upd (L2.upd H4 t (.tup (gs[i].map V.int))) D (.lst (vs ++ [.ref t]))) D) := fun b o e _ => by
            obtain ⟨h1, h2⟩ := del_some e
            rw [del_ne h1, upd_ne h1, upd_ne (ne_of_none h2 ht)]
            exact h2
          rw [take_more hi', List.map_append]
          refine (hd4.mv e0).snoc (.tup (xs := gs[i].map V.int) (SqT.of ?_) (dpAll_ints K _ _))
          rw [del_ne ntD, upd_ne ntD, upd_same]
        · exact (s4.trans (same_new ht)).put hD
      · have hw4 := kl4.seqT hw1
        refine ⟨_, rfl, w5, _, rfl, Or.inr ⟨hw4, vs, hD4, hvl, vs ++ [.ref w5], upd_same, ?_, s4.put hD⟩⟩
        have e0 : Kl (L2.del H4 D) (L2.del (L2.upd H4 D (.lst (vs ++ [.ref w5]))) D) := fun b o e _ => by
          obtain ⟨h1, h2⟩ := del_some e
          rw [del_ne h1, upd_ne h1]
          exact h2
        rw [take_more hi', List.map_append]
        refine (hd4.mv e0).snoc (.tup (xs := gs[i].map V.int) ?_ (dpAll_ints K _ _))
        rcases hw4 with (h | ⟨o', h⟩) | h
        · have n : w5 ≠ D := ne_of h hD4 (fun z => nomatch z)
          exact Or.inl (Or.inl (by rw [del_ne n, upd_ne n]; exact h))
        · have n : w5 ≠ D := ne_of h hD4 (fun z => nomatch z)
          exact Or.inl (Or.inr ⟨o', by rw [del_ne n, upd_ne n]; exact h⟩)
        · exact Or.inr h
    · rintro H4 ⟨vs, hD4, hd4, s4⟩
      rw [lr, List.take_of_length_le (Nat.le_refl _)] at hd4
      refine ⟨D, vs, rfl, Or.inl ⟨SqL.of hD4, fun t ht => ?_⟩⟩
      have s5 : Same H2 (L2.upd H4 t (.tup vs)) := s4.trans (same_new ht)
      have hT : Dp K (L2.upd H4 t (.tup vs)) (.ref t) (rowsIT gs) := .tup (SqT.of upd_same) (hd4.mv ((Kl.undel _ _).trans (Kl.same (same_new ht))))
      revert s5 hT
      generalize L2.upd H4 t (.tup vs) = H5
      intro s5 hT
      have ho5 := s5 _ _ ho2
      refine ⟨_, rfl, o, C, dx, _, rfl, ho5, T.cl, T.nR, (by show 1 < 1000; decide), ?_⟩
      -- self.good = tuple(sorted(set(good)))
      have hnko : ∀ b u, H b = some u → b ≠ o → (L2.upd H5 o (.ins C dx (putF "rows" (.ref t) (putF "letters" (.str z) [])))) b = some u := fun b u h n => by rw [upd_ne n]; exact s5 _ _ (k2 b u h n)
      have hT6 : Dp K (L2.upd H5 o (.ins C dx (putF "rows" (.ref t) (putF "letters" (.str z) [])))) (.ref t) (rowsIT gs) := hT.mv fun b u h d => by
        rw [upd_ne (fun q => by rw [q, ho5] at h; cases h; exact d)]; exact h
      have ho6 : (L2.upd H5 o (.ins C dx (putF "rows" (.ref t) (putF "letters" (.str z) [])))) o = some (.ins C dx (putF "rows" (.ref t) (putF "letters" (.str z) []))) := upd_same
      revert hnko hT6 ho6
      generalize L2.upd H5 o (.ins C dx (putF "rows" (.ref t) (putF "letters" (.str z) []))) = H6
      intro hnko hT6 ho6
      have kl6 : Kl H H6 := fun b u h d => hnko b u h fun q => by rw [q, ho] at h; cases h; exact d
      refine ⟨_, rfl, g, es, rfl, kl6.seq hg, by omega, fun p n hp hn => ?_⟩
      refine ⟨p, _, n, rfl, upd_same, by omega, fun ns q hu hm hnl hq => ?_⟩
      refine ⟨q, _, rfl, Or.inl ⟨SqL.of upd_same, fun a ha => ?_⟩⟩
      have nqp : q ≠ p := (ne_of_none upd_same hq).symm
      have hq6 : H6 q = none := by rw [upd_ne nqp] at hq; exact hq
      have s7 : Same H6 (L2.upd (L2.upd (L2.upd H6 p (SetO w p (fun j => decide (j ∈ es)) n)) q (.lst (ns.map V.int))) a (.tup (ns.map V.int))) := ((same_new hp).trans (same_new hq)).trans (same_new ha)
      have ha7 : (L2.upd (L2.upd (L2.upd H6 p (SetO w p (fun j => decide (j ∈ es)) n)) q (.lst (ns.map V.int))) a (.tup (ns.map V.int))) a = some (.tup (ns.map V.int)) := upd_same
      have fin : ∀ H7 : Hp, Same H6 H7 → H7 a = some (.tup (ns.map V.int)) → Q .non (L2.upd H7 o (.ins C dx (sflds z (.ref t) (.ref a)))) := fun H7 s7 ha7 => by
        have kl8 : Kl H7 (L2.upd H7 o (.ins C dx (sflds z (.ref t) (.ref a)))) := fun b u h d => by
          rw [upd_ne (fun q => by rw [q, s7 _ _ ho6] at h; cases h; exact d)]; exact h
        refine k _ ns hu (fun x => by rw [hm x, decide_eq_true_eq]) ⟨dx, .ref t, .ref a, upd_same, (hT6.mv (Kl.same s7)).mv kl8, (Dp.tup (SqT.of ha7) (dpAll_ints K H7 ns)).mv kl8⟩ fun b u h n => ?_
        rw [upd_ne n]
        exact s7 _ _ (hnko b u h n)
      exact ⟨_, rfl, o, C, dx, _, rfl, s7 _ _ ho6, T.cl, T.nG, (by show 2 < 1000; decide), fin _ s7 ha7⟩
end
end Vf
set_option Elab.async false
set_option linter.all false
set_option maxRecDepth 100000
set_option maxHeartbeats 4000000
namespace Vf
open PySem L2 PyProof.Rows
section
variable {P : Program} {w : World} {K : PySem.W.Frag} {mg : Str → Option Value} {base : Heap}
/-- the pick too -/
structure TxtP (K : PySem.W.Frag) (mg : Str → Option Value) (fD fP : Addr) : Prop extends TxtD K mg fD where
  m_law_pick : mg "_law_pick" = some (.ref fP)
  k_law_pick : PySem.W.keepIn K (.ref fP) = true
abbrev s__law_letters : Stmt := top 20
abbrev N__law_letters : List Str := ["_law_pen_here", "_law_many", "_law_left", "_law_found", "_law_turn", "_law_at"]
abbrev P__law_letters : List Str := ["_law_pen_here", "_law_many"]
theorem sc__law_letters : FnScope N__law_letters P__law_letters (defScope s__law_letters) := ⟨rfl, rfl, rfl, by decide +kernel, rfl, by decide +kernel, by decide +kernel⟩

theorem ok_letters {f fD : Addr} {fd fdD : FuncData} (F : Fun K "_law_letters" "_law_letters" s__law_letters f fd) (T : TxtD K mg fD) (FD : Fun K "_law_draw" "_law_draw" s__law_draw fD fdD) (b_law_draw : Binds K fdD P__law_draw []) : FnOk P w K mg base CX0 2 f fd P__law_letters spLetters := by
  have G_law_draw : FnOk P w K mg base CX0 1 fD fdD P__law_draw spDraw := ok_draw FD T.toTxtA
  refine F.ok sc__law_letters (fun vs H Q E h => ?_) (fun cdv A outer s H vs Q E hr h => ?_)
  · obtain ⟨p, c, m, n, rfl, _⟩ := h
    rfl
  · obtain ⟨p, c, m, n, rfl, hp, hn, hm, k⟩ := h
    refine ⟨_, (pss_cons (ps_par (i := 2) (j := 3) (by rfl) sc__law_letters.nd rfl rfl (by decide) rfl rfl (pa_cons pe_str (pa_cons (pe_lst pa_nil) pa_nil)) (by rfl))
      (pss_cons (ps_for PassesOwn.never rfl (pi_range1 (by rfl) T.range (pa_cons (pv 1) pa_nil)) (pg_name (i := 4) sc__law_letters.nd rfl (Or.inl rfl)) (pss_cons (ps_set (i := 5) sc__law_letters.nd rfl (Or.inl rfl) (pe_call G_law_draw (hr.mono (by decide)) (by rfl) T.m_law_draw T.k_law_draw b_law_draw .nil pass0 (pa_cons (pv 0) (pa_cons (pe_callB call_len (by rfl) T.len PySem.boot_len (pa_cons (pv 2) pa_nil)) pa_nil))))
      (pss_cons (ps_set (i := 3) sc__law_letters.nd rfl (Or.inl rfl) (pe_op op_cat (pv 3) (pe_lst (pa_cons (pe_ix ix_str (pv 2) (pv 5) (fun _ _ => rfl)) pa_nil))))
      (pss_one (ps_set (i := 2) sc__law_letters.nd rfl (Or.inl rfl) (pe_op op_add_str (pe_slice sl_str (pv 2) po_none (po_some (pv 5))) (pe_slice sl_str (pv 2) (po_some (pe_op op_add (pv 5) pe_int)) po_none)))))))
      (pss_one (ps_ret (pe_join pe_str (pe_callB cr_sortedS (by rfl) T.sorted boot_sorted (pa_cons (pv 3) pa_nil))))))), ?_⟩
    refine ⟨by show 0 ≤ sizeLine; decide, fun F0 hF => ⟨_, _, rfl, ?_⟩⟩
    have hFp : F0 ≠ p := by
      obtain ⟨kvs, hd⟩ := hp.dk
      exact (ne_of_none hd hF).symm
    refine ⟨_, rfl, (m : Int), rfl, by omega, by omega, for_range (n := m) (fun i σ H1 => ∃ (F1 : Addr) (L : Str) (fs : List Nat) (v4 v5 : Option V), σ = [some (.ref p), some (.int m), some (.str L), some (.ref F1), v4, v5] ∧
      H1 F1 = some (.lst ((fs.map sg).map V.str)) ∧ fs.length = i ∧ (fs ++ TL.tl L).Perm alpha ∧ Pen H1 p c (n + i) ∧ Kp p H H1)
      ⟨F0, _, [], none, none, rfl, upd_same, rfl, List.Perm.refl _, hp.same (same_new hF), Kp.of (same_new hF)⟩ ?_ ?_⟩
    · rintro i σ H1 hi ⟨F1, L, fs, v4, v5, rfl, hF1, hlen, hperm, hp1, kk⟩
      have hL : L.length = 26 - i := by
        have := hperm.length_eq
        rw [List.length_append, alpha_len, ← TL.len_tl] at this
        omega
      have hLz : L.length ≤ sizeLine := Nat.le_of_lt (small1000 (by omega))
      refine ⟨_, rfl, _, rfl, _, _, rfl, ⟨hLz, rfl⟩, p, c, _, n + i, rfl, hp1, by omega, by omega, by omega, fun d H2 d0 d1 hp2 kk2 => ?_⟩
      have hj : d.toNat < (TL.tl L).length := by rw [← TL.len_tl]; omega
      have hF2 : H2 F1 = some (.lst ((fs.map sg).map V.str)) := by
        obtain ⟨kvs, hd⟩ := hp1.dk
        exact kk2 _ _ hF1 (ne_of hF1 hd (by intro z; cases z))
      have ed : d = (d.toNat : Int) := (Int.toNat_of_nonneg d0).symm
      refine ⟨_, rfl, _, rfl, _, rfl, L, d, _, rfl, rfl, hLz, at_of' ed (List.getElem?_eq_getElem hj), (by show 1 ≤ sizeLine; decide), fun q hq => ?_⟩
      have s2 : Same H2 (L2.upd H2 q (.lst [V.str (sg (TL.tl L)[d.toNat])])) := same_new hq
      refine ⟨F1, q, _, _, rfl, rfl, s2 _ _ hF2, upd_same, (by rw [List.length_map, List.length_map]; show fs.length + 1 ≤ sizeLine; exact Nat.le_of_lt (small1000 (by omega))), fun r hr2 => ?_⟩
      have s3 : Same H2 (L2.upd (L2.upd H2 q (.lst [V.str (sg (TL.tl L)[d.toNat])])) r (.lst ((fs.map sg).map V.str ++ [V.str (sg (TL.tl L)[d.toNat])]))) := s2.trans (same_new hr2)
      -- left = left[:at] + left[at + 1:]
      have hjl : d.toNat < L.length := by omega
      have t1 : TL.tl (cutS L none (some d)) = (TL.tl L).take d.toNat := by rw [ed]; exact cut_to (by omega)
      have t2 : TL.tl (cutS L (some (d + 1)) none) = (TL.tl L).drop (d.toNat + 1) := by
        have e1 : d + 1 = ((d.toNat + 1 : Nat) : Int) := by omega
        rw [e1]; exact cut_from (by omega)
      refine ⟨_, rfl, _, rfl, d, rfl, L, rfl, hLz, _, rfl, _, rfl, _, _, rfl, rfl, _, rfl, L, rfl, hLz, _, _, rfl, rfl, ?_, ?_⟩
      · rw [TL.len_tl, TL.len_tl, t1, t2, List.length_take, List.length_drop, ← TL.len_tl, sizeLine_eq]
        rw [sizeLine_eq] at hLz
        omega
      · refine ⟨r, _, fs ++ [(TL.tl L)[d.toNat]], _, _, rfl, ?_, ?_, ?_, ?_, ?_⟩
        · rw [upd_same, List.map_append, List.map_append]; rfl
        · rw [List.length_append, hlen]; rfl
        · rw [TL.tl_append, t1, t2]
          have e2 : (TL.tl L).take d.toNat ++ ((TL.tl L)[d.toNat]'hj) :: (TL.tl L).drop (d.toNat + 1) = TL.tl L := by
            rw [← List.drop_eq_getElem_cons hj, List.take_append_drop]
          refine List.Perm.trans ?_ hperm
          conv => rhs; rw [← e2]
          rw [List.append_assoc]
          exact List.Perm.append_left _ (List.perm_middle (a := (TL.tl L)[d.toNat]'hj) (l₁ := (TL.tl L).take d.toNat) (l₂ := (TL.tl L).drop (d.toNat + 1))).symm
        · exact hp2.same s3
        · exact kk.trans (kk2.trans (Kp.of s3))
    · rintro σ H1 ⟨F1, L, fs, v4, v5, rfl, hF1, hlen, hperm, hp1, kk⟩
      refine ⟨⟨_, rfl⟩, _, rfl, F1, fs.map sg, rfl, SqL.of hF1, by rw [List.length_map]; omega, fun ys q hperm2 hsort hq => ?_⟩
      obtain ⟨ds, rfl, hd⟩ := perm_sg hperm2
      have hl := ltr_of hperm hd (sorted_sg hsort)
      have hdl : ds.length = m := hd.length_eq.trans hlen
      refine ⟨_, q, ds.map sg, rfl, rfl, Or.inl (SqL.of upd_same), ?_, ?_⟩
      · rw [sum_sg]
        show ds.length + (ds.map sg).length * 0 ≤ 16777216
        omega
      · have e : TL.tl (Txt.join (Str.ofString "") (ds.map sg)) = ds := join_sg ds
        refine k _ _ ⟨by rw [TL.len_tl, e]; exact hdl, by rw [e]; exact hl.1, by rw [e]; exact hl.2⟩ (hp1.same (same_new hq)) (kk.trans (Kp.of (same_new hq)))
end
end Vf
set_option Elab.async false
set_option linter.all false
set_option maxRecDepth 100000
set_option maxHeartbeats 4000000
/-! == and len by an own __eq__, __len__: any answer -/
namespace Vf
open PySem PySem.Spec PyProof.Rows L2
section
variable {X : Cx} {CX : CXT} {n : Nat} {C f : Addr} {fd : FuncData} {ps : List Str} {sp : Sp} {E : XK}
theorem run_ok {A : Around} {pins : List (Addr × Obj)} {σ : L2.St} {H : Hp} {s : Shared} {us : List Value} {ws : List V} {Q : VK} (F : FnOk X.prog X.w X.K X.mg X.base CX n f fd ps sp) (hb : Binds X.K fd ps []) (hx : Passes CX X E) (sb : Sub X n A)
    (I : Inv X pins σ H s) (r : Vals ws us) (h : sp ws H Q E) : wpAny (model X.prog X.w) A (call (.ref f) us) (EP X pins σ Q) X.xe s := by
  have e0 : Env0 X.prog X.w X.K X.mg X.base A X.stack s H := by
    have e := I.env0
    exact ⟨by rw [sb.fr]; exact e.frames, e.mod, e.bs, e.bsz, e.funs, e.frf, e.hok, e.bare⟩
  have hl := F.len _ _ _ _ h
  refine wpAny_call (codeAny_mono (F.run A X.stack s H ⟨us, []⟩ us ws _ E sb.room e0 (by
    have hl2 : (us ++ []).length = ps.length := by rw [List.append_nil, ← r.length]; simpa using hl
    have := hb s us I.kIn hl2
    simpa using this) r h) fun r s' hq => ?_)
  cases r with
  | error e => exact hx pins σ H s e s' I hq
  | ok fl =>
    cases fl with
    | ret w => exact I.after hq
    | next => exact False.elim hq
    | brk => exact False.elim hq
    | cont => exact False.elim hq
/-- x op y, x an instance of the class at C whose def for op is at f; y another such instance -/
def rOwnI (C : Addr) (sp : Sp) (E : XK) : R2 := fun x y H Q => ∃ a dx fs b dy gs, x = .ref a ∧ y = .ref b ∧ H a = some (.ins C dx fs) ∧ H b = some (.ins C dy gs) ∧ sp [x, y] H Q E
theorem op_ownI {op : CmpOp} (hop : ∀ a b, compareOp op a b = richCompare op a b) (hs : PySem.W.findIn X.K (.ref C) (cmpInfo op).2.1 = some (some (.ref f))) (hf : PySem.W.isFn X.K (.ref f) = true) (F : FnOk X.prog X.w X.K X.mg X.base CX n f fd ps sp)
    (hr : Room n X.A) (hb : Binds X.K fd ps []) (hx : Passes CX X E) : OpR X (compareOp op) (rOwnI C sp E) := by
  intro pins s σ H x y v u Q I rx ry h
  obtain ⟨a, dx, fs, b, dy, gs, rfl, rfl, ha, hb', q⟩ := h
  cases (show v = Value.ref a from rx)
  cases (show u = Value.ref b from ry)
  obtain ⟨mA, J, _⟩ := ins_get I.hok ha
  obtain ⟨mB, J', _⟩ := ins_get I.hok hb'
  obtain ⟨od, J, _⟩ := J.look
  obtain ⟨od', J', _⟩ := J'.look
  obtain ⟨m, hF⟩ := I.fr
  rw [hop]
  refine PySem.W.cmp_K (op := op) (tb := .ref C) hr.units0 hF I.ok.mod.kin J J'.type (by simp [PySem.W.notFirst]) hs hf ?_
  refine wpAny_mono (run_ok (us := [.ref a, .ref b]) (ws := [.ref a, .ref b]) F hb hx ⟨hr, rfl⟩ I (.cons rfl (.cons rfl .nil)) q) (fun w s' z => ?_) fun _ _ x => x
  obtain ⟨z', H', I', rz, qz⟩ := z
  exact SlX.cmpback rz ⟨z', H', I', rz, qz⟩
/-- x op y, y a tuple -/
def rOwnT (K : PySem.W.Frag) (C : Addr) (sp : Sp) (E : XK) : R2 := fun x y H Q => ∃ a dx fs b ys, x = .ref a ∧ y = .ref b ∧ H a = some (.ins C dx fs) ∧ SqT K H b ys ∧ sp [x, y] H Q E
theorem op_ownT {op : CmpOp} (hop : ∀ a b, compareOp op a b = richCompare op a b) (hs : PySem.W.findIn X.K (.ref C) (cmpInfo op).2.1 = some (some (.ref f))) (hf : PySem.W.isFn X.K (.ref f) = true) (F : FnOk X.prog X.w X.K X.mg X.base CX n f fd ps sp)
    (hr : Room n X.A) (hb : Binds X.K fd ps []) (hx : Passes CX X E) (hn : PySem.W.subIn X.K (.type "tuple") (.ref C) = some false) : OpR X (compareOp op) (rOwnT X.K C sp E) := by
  intro pins s σ H x y v u Q I rx ry h
  obtain ⟨a, dx, fs, b, ys, rfl, rfl, ha, hb', q⟩ := h
  cases (show v = Value.ref a from rx)
  cases (show u = Value.ref b from ry)
  obtain ⟨mA, J, _⟩ := ins_get I.hok ha
  obtain ⟨od, J, _⟩ := J.look
  obtain ⟨m, hF⟩ := I.fr
  obtain ⟨its, r, ht, hz⟩ := I.tuple hb'
  obtain ⟨o, ho, hc, _⟩ := id ht
  have J' : PySem.W.Looks (model X.prog X.w) s.heap (typeOf (.ref b)) (.type "tuple") := fun A Q E s k q => wpAny_typeOf_ref (k _ _ ho) (by rw [hc]; exact q)
  rw [hop]
  refine PySem.W.cmp_K (op := op) (tb := .type "tuple") hr.units0 hF I.ok.mod.kin J J' (by simp [PySem.W.notFirst, hn]) hs hf ?_
  refine wpAny_mono (run_ok (us := [.ref a, .ref b]) (ws := [.ref a, .ref b]) F hb hx ⟨hr, rfl⟩ I (.cons rfl (.cons rfl .nil)) q) (fun w s' z => ?_) fun _ _ x => x
  obtain ⟨z', H', I', rz, qz⟩ := z
  exact SlX.cmpback rz ⟨z', H', I', rz, qz⟩
/-- len(x) by an own __len__ -/
def rLenI (C : Addr) (sp : Sp) (E : XK) : List V → Hp → VK → Prop := fun xs H Q => ∃ a dx fs, xs = [.ref a] ∧ H a = some (.ins C dx fs) ∧ sp [.ref a] H (fun z H' => ∃ k : Nat, z = .int k ∧ k ≤ sizeLine ∧ Q z H') E
theorem call_lenI (hs : PySem.W.findIn X.K (.ref C) "__len__" = some (some (.ref f))) (hf : PySem.W.isFn X.K (.ref f) = true) (F : FnOk X.prog X.w X.K X.mg X.base CX n f fd ps sp)
    (hr : Room (n + 1) X.A) (hb : Binds X.K fd ps []) (hx : Passes CX X E) : CallR X (.builtin "len") (rLenI C sp E) := by
  intro pins s σ H xs us Q I r h
  obtain ⟨a, dx, fs, rfl, ha, q⟩ := h
  obtain ⟨u, rfl, ru⟩ := vals1 r
  cases (show u = Value.ref a from ru)
  obtain ⟨mA, J, _⟩ := ins_get I.hok ha
  obtain ⟨od, J, _⟩ := J.look
  have hl := line63
  have hsz : sizeLine = 16777216 := sizeLine_eq
  refine Calls.call_function_entry PySem.kind_len PySem.plain_len PySem.entry_len (PySem.args_len1 _) ?_
  unfold Builtin.«len»
  refine wpAny_bind (m := oneArg "len" _) (wpAny_pure ?_)
  refine wpAny_bind (m := callSpecial? (.ref a) (PySem.Str.ofString "__len__")) (PySem.W.special_fn I.kIn J hs (beq_iff_eq.mp hf) (wpAny_mono (run_ok (us := [.ref a]) (ws := [.ref a]) F hb hx ?_ I (.cons rfl .nil) q) (fun w s' z => ?_) fun _ _ x => x))
  · exact ⟨hr.in1, rfl⟩
  · obtain ⟨z', H', I', rz, k, rfl, hk, qz⟩ := z
    obtain ⟨t, rfl⟩ := (show ∃ t, w = Value.int k t from rz)
    refine wpAny_bind (wpAny_holding (wpAny_pure ?_))
    refine wpAny_bind (wpAny_letGo ?_)
    show wpAny _ _ (if ((k : Nat) : Int) < 0 then _ else _) _ _ _
    rw [if_neg (by omega)]
    show wpAny _ _ (if ((k : Nat) : Int) ≥ 2 ^ 63 then _ else _) _ _ _
    rw [if_neg (by omega)]
    exact wpAny_bind (wpAny_mkInt (wpAny_pure ⟨_, rfl, .int k, H', I'.tok _, ⟨_, rfl⟩, qz⟩))
end
end Vf
set_option Elab.async false
set_option linter.all false
set_option maxRecDepth 100000
set_option maxHeartbeats 4000000
/-! str(x) by an own __str__; x op y by an own def, y a text -/
namespace Vf
open PySem PySem.Spec PyProof.Rows L2
section
variable {X : Cx} {CX : CXT} {n : Nat} {C f : Addr} {fd : FuncData} {ps : List Str} {sp : Sp} {E : XK}
def rStrI (C : Addr) (sp : Sp) (E : XK) : List V → Hp → VK → Prop := fun xs H Q => ∃ a dx fs, xs = [.ref a] ∧ H a = some (.ins C dx fs) ∧ sp [.ref a] H (fun z H' => ∃ y, z = .str y ∧ Q (.str y) H') E
theorem call_strI (hs : PySem.W.findIn X.K (.ref C) "__str__" = some (some (.ref f))) (hf : PySem.W.isFn X.K (.ref f) = true) (F : FnOk X.prog X.w X.K X.mg X.base CX n f fd ps sp)
    (hr : Room (n + 2) X.A) (hb : Binds X.K fd ps []) (hx : Passes CX X E) : CallR X (.type "str") (rStrI C sp E) := by
  intro pins s σ H xs us Q I r h
  obtain ⟨a, dx, fs, rfl, ha, q⟩ := h
  obtain ⟨u, rfl, ru⟩ := vals1 r
  cases (show u = Value.ref a from ru)
  obtain ⟨mA, J, _⟩ := ins_get I.hok ha
  obtain ⟨od, J, _⟩ := J.look
  refine callType_newIn PySem.F.called_str (by decide) (PySem.F.typeCall_str_1 _) (PySem.F.newCall_str_1 _) (fun obj => PySem.F.args_object_init_2 obj _) PySem.F.entry_str_new
    (S := fun A R s' => s' = s ∧ Sub X (n + 1) A ∧ (∀ y t s1 H', Inv X pins σ H' s1 → Q (.str y) H' → R (.ok (.ret (.str y t))) s1) ∧ ∀ e s1, X.xe e s1 → R (.error e) s1)
    (.of_wp fun A R s' hS => ?_) ⟨rfl, ⟨hr.in1, rfl⟩, fun y t s1 H' I1 q1 => ⟨typeIs_str _ _ _, .str y, H', I1, ⟨t, rfl⟩, q1⟩, fun e s1 z => z⟩
  obtain ⟨rfl, sb, h1, h2⟩ := hS
  rw [str_new_tree]
  refine wpAny_bind (wpAny_pure (wpAny_bind (wpAny_of_eq isSubtype_str_str (wpAny_bind ?_))))
  unfold Builtin.Str.strOf
  rw [if_neg (show ¬ Builtin.Str.isExactStr (.ref a) = true from Bool.false_ne_true)]
  refine wpAny_bind (wpAny_cRoomFor (by have := sb.room.un; show A.units + 1 < cLine; omega) (wpAny_bind (m := callSpecial? (.ref a) (PySem.Str.ofString "__str__")) (PySem.W.special_fn I.kIn J hs (beq_iff_eq.mp hf) ?_)))
  refine wpAny_mono (run_ok (us := [.ref a]) (ws := [.ref a]) F hb hx sb.in1 I (.cons rfl .nil) q) (fun w s1 z => ?_) (fun e s1 z => h2 e s1 z)
  obtain ⟨z', H', I1, rz, y, rfl, qy⟩ := z
  obtain ⟨t, rfl⟩ := (show ∃ t, w = Value.str y t from rz)
  refine wpAny_bind (m := asStr? (.str y t)) (wpAny_pure ?_)
  show wpAny _ _ (pure (Value.str y t)) _ _ _
  exact wpAny_pure (wpAny_pure ⟨_, rfl, h1 y t s1 H' I1 qy⟩)
/-- x op y, y a text -/
def rOwnS (C : Addr) (sp : Sp) (E : XK) : R2 := fun x y H Q => ∃ a dx fs z, x = .ref a ∧ y = .str z ∧ H a = some (.ins C dx fs) ∧ sp [x, y] H Q E
theorem op_ownS {op : CmpOp} (hop : ∀ a b, compareOp op a b = richCompare op a b) (hs : PySem.W.findIn X.K (.ref C) (cmpInfo op).2.1 = some (some (.ref f))) (hf : PySem.W.isFn X.K (.ref f) = true) (F : FnOk X.prog X.w X.K X.mg X.base CX n f fd ps sp)
    (hr : Room n X.A) (hb : Binds X.K fd ps []) (hx : Passes CX X E) (hn : PySem.W.subIn X.K (.type "str") (.ref C) = some false) : OpR X (compareOp op) (rOwnS C sp E) := by
  intro pins s σ H x y v u Q I rx ry h
  obtain ⟨a, dx, fs, z, rfl, rfl, ha, q⟩ := h
  cases (show v = Value.ref a from rx)
  obtain ⟨t, rfl⟩ := (show ∃ t, u = Value.str z t from ry)
  obtain ⟨mA, J, _⟩ := ins_get I.hok ha
  obtain ⟨od, J, _⟩ := J.look
  obtain ⟨m, hF⟩ := I.fr
  have J' : PySem.W.Looks (model X.prog X.w) s.heap (typeOf (.str z t)) (.type "str") := .of_pure rfl
  rw [hop]
  refine PySem.W.cmp_K (op := op) (tb := .type "str") hr.units0 hF I.ok.mod.kin J J' (by simp [PySem.W.notFirst, hn]) hs hf ?_
  refine wpAny_mono (run_ok (us := [.ref a, .str z t]) (ws := [.ref a, .str z]) F hb hx ⟨hr, rfl⟩ I (.cons rfl (.cons ⟨t, rfl⟩ .nil)) q) (fun w s' z => ?_) fun _ _ x => x
  obtain ⟨z', H', I', rz, qz⟩ := z
  exact SlX.cmpback rz ⟨z', H', I', rz, qz⟩
end
/-- a dict comprehension over any walk -/
theorem dc_it {J : It} {n : Nat} {G : Hp → Prop} {Y : Nat → Hp → V → Hp → Prop} (w : Walk J n G Y) {g : TG} {tt : TT} {tk tv : TE} {vs : List Nat} {σ : L2.St} {H1 : Hp} {D : Addr} {Qd : Hp → Prop} (Pv : Nat → Hp → Prop) (h0 : Pv 0 (L2.upd H1 D (.dK []))) (hG : ∀ i H, i ≤ n → Pv i H → G H)
    (hs : ∀ i x H H', i < n → Pv i H → Y i H x H' → g x (wipe σ vs) H' fun σ2 H2 => wipe σ2 vs = wipe σ vs ∧ tt σ2 H2 fun b H3 =>
      if b = true then tk σ2 H3 fun y H4 => tv σ2 H4 fun z H5 => ∃ kvs k, y = kV k ∧ H5 D = some (.dK kvs) ∧ kvs.length < sizeLine ∧ Pv (i + 1) (L2.upd H5 D (.dK (putK kvs k z))) else Pv (i + 1) H3) (hd : ∀ H, Pv n H → Qd H) :
    ∃ W : Nat → Nat → Hp → Prop, (∃ m, W 0 m (L2.upd H1 D (.dK []))) ∧ ∀ i m H, W i m H →
      (J.stop i H ∧ Qd H) ∨ (J.go i H ∧ ∃ Nx : Hp → Prop, (∀ H', Nx H' → ∃ m', m' < m ∧ W (i + 1) m' H') ∧ ∀ x H', J.yld i H x H' → g x (wipe σ vs) H' fun σ2 H2 => wipe σ2 vs = wipe σ vs ∧ tt σ2 H2 fun b H3 =>
        if b = true then tk σ2 H3 fun y H4 => tv σ2 H4 fun z H5 => ∃ kvs k, y = kV k ∧ H5 D = some (.dK kvs) ∧ kvs.length < sizeLine ∧ Nx (L2.upd H5 D (.dK (putK kvs k z))) else Nx H3) := by
  refine ⟨fun i m H => m = n - i ∧ i ≤ n ∧ Pv i H, ⟨n, by simp, Nat.zero_le _, h0⟩, ?_⟩
  rintro i m H ⟨rfl, hi, p⟩
  have q := hG i H hi p
  by_cases hlt : i < n
  · refine .inr ⟨w.goes i H hlt q, Pv (i + 1), fun H' p' => ⟨n - (i + 1), by omega, rfl, hlt, p'⟩, fun x H' y => hs i x H H' hlt p (w.yields i H x H' hlt q y)⟩
  · have e : i = n := by omega
    subst e
    exact .inl ⟨w.stops H q, hd H p⟩
section
variable {X : Cx}
theorem sw_dc {kx vx : Expr} {gs : List Comprehension} {scope : Scope} {pos py : Pos} {y : Str} {l : Nat} {env : Env} (hk : env.scope.kind = .function) (hy : env.scope.names.lookup y = some .local) (hl : (py.line == pos.line) = true)
    (ha : (scope.names.any fun (n, k) => n == y && (k == .local || k == .cell)) = false) : swapsWith (.DictComp kx vx gs scope pos) (some (.Name y py)) l env = pure true := by
  have ky : env.kindOf y = some .local := hy
  have hb : env.blockKind = .function := by unfold Env.blockKind; rw [hk]; rfl
  unfold swapsWith
  simp only [hb, ky, ha, Expr.pos, hl]
  rfl
/-- name = a dict comprehension, the name a local -/
theorem ps_setDc {i : Nat} {y : Str} {py : Pos} {kx vx tg iter : Expr} {ifs : List Expr} {scope : Scope} {own : List (Str × Nat)} {pos spos : Pos} {wi : TI} {g : TG} {tt : TT} {tk tv : TE} (hc : X.calm = true) (hN : X.N.Nodup) (hy : X.N[i]? = some y) (hyl : X.env.scope.names.lookup y = some .local)
    (hsw : swapsWith (.DictComp kx vx [⟨tg, iter, ifs, 0⟩] scope pos) (some (.Name y py)) spos.line X.env = pure true) (hi : PI X tg iter wi) (ok : BlkOk X.N X.env.scope scope own)
    (hg : ∀ (s : Shared) (H : Hp) (C : Addr) (cl : List (Str × Addr)) (fp : List Addr), PG (X.blk s H scope (compEnvC scope cl C X.env) fp) tg g) (ht : ∀ (s : Shared) (H : Hp) (C : Addr) (cl : List (Str × Addr)) (fp : List Addr), PTs (X.blk s H scope (compEnvC scope cl C X.env) fp) ifs tt)
    (hk : ∀ (s : Shared) (H : Hp) (C : Addr) (cl : List (Str × Addr)) (fp : List Addr), PE (X.blk s H scope (compEnvC scope cl C X.env) fp) kx tk)
    (he : ∀ (s : Shared) (H : Hp) (C : Addr) (cl : List (Str × Addr)) (fp : List Addr), PE (X.blk s H scope (compEnvC scope cl C X.env) fp) vx tv) (hs : ∀ x, foldedSetIterable iter X.env x = pure x := by intro _; rfl) :
    PS X (.Assign [.Name y py] (.DictComp kx vx [⟨tg, iter, ifs, 0⟩] scope pos) spos) (tAsg (tDc wi g tt tk tv (own.map (·.2))) (gName i)) := by
  refine ⟨fun pins s σ H D I h => ?_⟩
  rw [exec_Assign_Name_used _ _ _ _ hsw]
  refine wpAny_bind (wpAny_standAt (wpAny_bind ?_))
  have h : tDc wi g tt tk tv (own.map (·.2)) σ H (fun x H1 => gName i x σ H1 D.nx) := h
  refine wpAny_bind (thn (dc_core (use := some (assign (.Name y py) X.env)) (pos' := firstIterPos [⟨tg, iter, ifs, 0⟩] pos) (Qf := fun _ s' => SP X pins D .next s') hc hN I hi ok hg ht hk he hs h fun L C s' m H' I' q hn f => ?_) fun _ s' hq => wpAny_pure (wpAny_pure hq))
  show wpAny _ _ (assign (.Name y py) X.env (.ref L)) _ _ _
  refine wpAny_assign_Name (store_ok2 (v := V.ref L) I' hN hy (.inl hyl) rfl (fun s2 I2 ⟨a, sb, ha⟩ => ?_) (.inr hyl))
  obtain ⟨f0, f1, f2, f3, f4, f5⟩ := f
  have haC : C ≠ a := by
    rcases ha with z | z
    · rw [z]; exact f1
    · exact fun e => f4 y a z e.symm
  exact ⟨m, hn.sameBut sb haC, fun h3 sb3 => ⟨_, H', I2.turned (t' := s2.toks) (fun b o hb e => (sb3.2 b hb).trans e) f0 f1 f3 f4 f5, q⟩⟩
end
end Vf
set_option Elab.async false
set_option linter.all false
set_option maxRecDepth 100000
set_option maxHeartbeats 4000000
/-! enumerate(a list, start=k); C(..) where C is what a variable holds -/
namespace Vf
open PySem PySem.Spec PyProof.Rows L2
/-- cls(e, ..): the class in a variable -/
def tMakeC (i : Nat) (C : Addr) (sp : Sp) (dvs : List V) (E : XK) (t : TA) : TE := fun σ H Q => σ[i]? = some (some (.ref C)) ∧ tMake C sp dvs E t σ H Q
section
variable {X : Cx} {CX : CXT} {k i : Nat} {C f : Addr} {fd : FuncData} {ps : List Str} {dvs : List V} {ds : List Value} {sp : Sp} {E : XK} {x : Str} {e : Expr} {es : List Expr} {t : TA} {p pos : Pos}
theorem pe_makeC (M : Mk X.K C f) (F : FnOk X.prog X.w X.K X.mg X.base CX k f fd ps sp) (hr : Room (k + 1) X.A) (hN : X.N[i]? = some x) (hv : Vis X.env.scope x) (hb : Binds X.K fd ps ds) (hd : Vals dvs ds) (hx : Passes CX X E) (ha : PA X (e :: es) t)
    (hdb : (x == ("__debug__" : Str)) = false := by decide) (hcd : (x == ("__classdict__" : Str)) = false := by decide)
    (he : starEach (e :: es) X.env = (false, eval e X.env) :: starEach es X.env := by rfl) (hpl : (backTo pos (starEach es X.env)).any (·.1) = false := by rfl) : PE X (.Call (.Name x p) (e :: es) [] pos) (tMakeC i C sp dvs E t) := by
  refine ⟨fun pins s σ H Q I h => ?_⟩
  obtain ⟨hs, h⟩ := h
  refine wpAny_Call_Name_kw (thn ((pe_var (pos := p) (i := i) hN hv hdb hcd).run pins s σ H (fun v H1 => v = .ref C ∧ H1 = H) I ⟨.ref C, hs, rfl, rfl⟩) fun u s1 ⟨v, H1, I1, r1, ev, eH⟩ => ?_)
  subst ev
  rw [eH] at I1
  cases r1
  refine PySem.W.callWith_K (h₀ := X.base) I.ok.mod.kin M.kp (thn (ha.run pos pins s1 σ H _ I1 h) fun us s2 ⟨vs, H2, I2, r, q⟩ => ⟨I2.kIn, ?_⟩) he hpl
  exact run_make M F hr hb hd hx I2 r q
end
section
variable {M : Model} {A : Around} {E : Value → Shared → Prop} {s : Shared}
theorem callWith_typeKw {pos : Pos} {T : String} {args : List (Bool × Sem Value)} {keywords : List (Option Str × Sem Value)} {Q : Value → Shared → Prop} (hplain : args.any (·.1) = false) (hkw : keywords.any (·.1.isNone) = false)
    (h : wpAny M A (evalArgs (.type T) true args keywords) (fun a s1 => wpAny M A (call (.type T) a.pos a.kw) Q E s1) E s) : wpAny M A (callWith pos (.type T) [] args keywords) Q E s := by
  unfold callWith
  refine wpAny_bind (wpAny_holding (wpAny_mono h (fun a s1 h1 => wpAny_bind (wpAny_standAt ?_)) fun _ _ x => x))
  simp only [hplain, hkw, Bool.or_false]
  refine wpAny_bind (wpAny_pure ?_)
  exact wpAny_bind (wpAny_mono h1 (fun r s2 hr => wpAny_bind (wpAny_holding (wpAny_point (wpAny_pure hr)))) fun _ _ x => x)
end
/-- the list at a, each item in a new pair behind its number, counted from n -/
def Ites (K : PySem.W.Frag) (a : Addr) (n : Nat) : It :=
  ⟨fun i H => ∃ (xs : List V) (x : V), SqL K H a xs ∧ xs[i]? = some x, fun i H v H' => ∃ T x, v = .ref T ∧ H T = none ∧ H' = L2.upd H T (.tup [.int ((n + i : Nat) : Int), x]) ∧ ∀ xs, SqL K H a xs → xs[i]? = some x, fun i H => ∃ xs : List V, SqL K H a xs ∧ xs.length ≤ i⟩
theorem drawsEndL {prog : Program} {w : World} {A : Around} (hh : A.handled = none) (it t : Addr) (items : Array Value) (i : Nat) (hi : items[i]? = none) :
    Draws prog w A it [it, t] i (fun _ _ => False) (fun j h => j = i ∧ h.IsListIter it t j ∧ h.IsList t items) where
  live := fun _ _ st => let ⟨o, ho, _⟩ := st.2.1; ⟨o, ho⟩
  frame := fun _ _ _ st hk => ⟨st.1, st.2.1.at fun o e => hk it (by simp) o e, st.2.2.at fun o e => hk t (by simp) o e⟩
  item := fun j s Q E hj st hQ => absurd st.1 (Nat.ne_of_lt hj)
  done := fun s Q E st hE => wpAny_nextOf_list_end hh st.2.1 st.2.2 hi hE
theorem turn_enumN {P : Program} {w : World} {K : PySem.W.Frag} {elts : List Expr} {kk : Nat} {tpos : Pos} (n : Nat) (a e it : Addr) :
    Turn P w K (.Tuple elts kk tpos) (Ites K a n) [e, it] e (fun i h => (∃ old, IsEnum h e it ((n + i : Nat) : Int) old) ∧ h.IsListIter it a i ∧ e ≠ it) where
  mem := by simp
  obj := fun i h st b hb => by
    obtain ⟨⟨old, he⟩, ⟨o, ho, hc, hd⟩, _⟩ := st
    rcases (show b = e ∨ b = it by simpa using hb) with z | z
    · rw [z]; exact ⟨_, he, fun v q => nomatch q⟩
    · rw [z]; exact ⟨o, ho, fun v q => by rw [hd] at q; cases q⟩
  keep := fun i h h' st k => let ⟨⟨old, he⟩, hi, hne⟩ := st; ⟨⟨old, k e (by simp) _ he⟩, hi.at fun o q => k it (by simp) o q, hne⟩
  item := by
    intro X hP hw hK hc i pins s σ H E I hf st hg
    subst hP hw hK
    obtain ⟨⟨old, he⟩, hit, hne⟩ := st
    obtain ⟨xs, x, hq, hx⟩ := hg
    obtain ⟨its, rv, p, hz⟩ := I.list hq
    obtain ⟨u, hu, ru⟩ := rv.get hx
    have hel : e < s.heap.objs.size := Heap.lt_size he
    have hil : it < s.heap.objs.size := by obtain ⟨_, q, _⟩ := hit; exact Heap.lt_size q
    have hae : a ≠ e := fun z => by
      obtain ⟨o, ho, hc, _⟩ := p.isList
      rw [z] at ho
      have : o = _ := Option.some.inj (ho.symm.trans he)
      rw [this] at hc
      exact absurd (Value.type.inj hc) (by decide)
    have hai : a ≠ it := fun z => by
      obtain ⟨o, ho, hc, _⟩ := p.isList
      obtain ⟨o2, ho2, hc2, _⟩ := hit
      rw [z] at ho
      rw [Option.some.inj (ho.symm.trans ho2), hc2] at hc
      exact absurd (Value.type.inj hc) (by decide)
    have D := Draws.list (prog := X.prog) (w := X.w) (A := X.A.in1) (show X.A.in1.handled = none from I.ok.hd hc) it a hai its.toArray
    have hlt : i < its.toArray.size := by
      obtain ⟨h, _⟩ := List.getElem?_eq_some_iff.mp hu
      simpa using h
    refine wpAny_pyNext_enum_itemC D he ⟨hit, p.isList⟩ hlt hne (by simp [hne, Ne.symm hae]) fun y h' tk hy ho hit' hT hsz hk => ?_
    obtain rfl : u = y := by
      have : its.toArray[i]? = some u := by simpa using hu
      exact Option.some.inj (this.symm.trans hy)
    refine ⟨_, rfl, wpAny_letOwnedTupleGo_enum (s := { s with heap := h', toks := tk + 1 }) ho fun h'' he' sb => ?_⟩
    have hT2 : h''.get? s.heap.objs.size = some { cls := .type "tuple", data := .seq #[.int ((n + i : Nat) : Int) tk, u] } := (sb.2 _ (Nat.ne_of_gt hel)).trans hT
    have new : ObjOk X.prog X.w (L2.upd H s.heap.objs.size (.tup [.int ((n + i : Nat) : Int), x])) h'' s.heap.objs.size (.tup [.int ((n + i : Nat) : Int), x]) :=
      ⟨by show 2 ≤ sizeLine; decide, [.int ((n + i : Nat) : Int) tk, u], .cons ⟨_, rfl⟩ (.cons ru .nil), ⟨_, hT2, rfl, _, rfl⟩⟩
    have I1 : Inv X pins σ (L2.upd H s.heap.objs.size (.tup [.int ((n + i : Nat) : Int), x])) { s with heap := h'', toks := tk + 1 } :=
      I.turnedNew (ch := [e, it]) (fun b ob hb q => (sb.2 b (fun z => hb (by simp [z]))).trans (hk b ob (fun z => hb (by simp [z])) (fun z => hb (by simp [z])) q)) hf (Nat.le_refl _) new
    refine ⟨.ref s.heap.objs.size, _, I1, rfl, ⟨_, x, rfl, I.hok.fresh (Nat.le_refl _), rfl, fun ys hy => by rw [I.list_inj hy hq]; exact hx⟩, ⟨⟨u, ?_⟩, hit'.1.at fun o q => (sb.2 it (Ne.symm hne)).trans q, hne⟩, fun b hb => ?_⟩
    · have e1 : ((n + (i + 1) : Nat) : Int) = ((n + i : Nat) : Int) + 1 := by omega
      rw [e1]; exact he'
    · have hb' : b < s.heap.objs.size := by
        rcases (show b = e ∨ b = it by simpa using hb) with z | z
        · rw [z]; exact hel
        · rw [z]; exact hil
      rw [upd_ne (Nat.ne_of_lt hb')]
      exact (hf b hb).1
  done := by
    intro X hP hw hK hc i pins s σ H E I hf st hg
    subst hP hw hK
    obtain ⟨⟨old, he⟩, hit, hne⟩ := st
    obtain ⟨xs, hq, hx⟩ := hg
    obtain ⟨its, rv, p, hz⟩ := I.list hq
    obtain ⟨f0, f1, f2, f3, f4, f5⟩ := hf it (by simp)
    have hl := rv.length
    have D := drawsEndL (prog := X.prog) (w := X.w) (A := X.A.in1) (show X.A.in1.handled = none from I.ok.hd hc) it a its.toArray i (by simp; omega)
    exact wpAny_pyNext_enum_endD D he ⟨rfl, hit, p.isList⟩ fun h' eb => ⟨rfl, I.turned (t' := s.toks) (fun b o hb q => eb b o hb q) f0 f1 f3 f4 f5⟩
  self := fun A i s Q E st h => let ⟨⟨_, he⟩, _⟩ := st; wpAny_pyIter_enum he h
theorem walk_enumN {K : PySem.W.Frag} {a : Addr} {xs : List V} {n : Nat} : Walk (Ites K a n) xs.length (fun H => SqL K H a xs) (fun i H v H' => ∃ T x, v = .ref T ∧ H T = none ∧ H' = L2.upd H T (.tup [.int ((n + i : Nat) : Int), x]) ∧ xs[i]? = some x) :=
  ⟨fun i H hi h => ⟨xs, _, h, List.getElem?_eq_getElem hi⟩, fun H h => ⟨xs, h, Nat.le_refl _⟩, fun i H v H' hi h y => by obtain ⟨T, x, h1, h2, h3, h4⟩ := y; exact ⟨T, x, h1, h2, h3, h4 xs h⟩⟩
def iEnumN (K : PySem.W.Frag) (n : Nat) (ta tk : TA) : TI := fun σ H R => ta σ H fun vs H1 => tk σ H1 fun ws H2 => ∃ a xs, vs = [.ref a] ∧ ws = [.int (n : Nat)] ∧ SqL K H2 a xs ∧ R (Ites K a n) H2
theorem pi_enumN {X : Cx} {e ek : Expr} {ta tk : TA} {p pos tpos kp : Pos} {elts : List Expr} {kk n : Nat} (hn : n < 2 ^ 62) (hg : Gl X "enumerate") (hm : X.mg "enumerate" = none) (ha : PA X [e] ta) (hkw : PK X [⟨some "start", ek, kp⟩] tk) (hs : starEach [e] X.env = [(false, eval e X.env)] := by rfl) :
    PI X (.Tuple elts kk tpos) (.Call (.Name "enumerate" p) [e] [⟨some "start", ek, kp⟩] pos) (iEnumN X.K n ta tk) := by
  refine ⟨fun pins s σ H R I h => ?_⟩
  refine wpAny_Call_Name_kw (ld_blt I hg hm boot_enumerate ?_)
  have key := ha.run pos pins s σ H _ I h
  rw [hs] at key ⊢
  refine callWith_typeKw rfl rfl (evalArgs_kwB rfl (thn key fun us s1 ⟨vs, H1, I1, r1, q1⟩ => ?_))
  refine thn (hkw.run pos pins s1 σ H1 _ I1 q1) fun ws s2 ⟨zs, H2, I2, rz, q2⟩ => ?_
  obtain ⟨a, xs, ex, ez, hq, q⟩ := q2
  subst ex
  subst ez
  cases r1 with
  | cons r rr =>
    cases rr
    cases r
    cases rz with
    | cons rk rr =>
      cases rr
      obtain ⟨t, rfl⟩ := rk
      obtain ⟨its, rv, p', hz⟩ := I2.list hq
      refine enum_begins_start (begins_list a its.toArray) p'.isList (by omega) (by omega) fun h' he hit hsz hk => wpAny_pyIter_enum he ?_
      have I3 : Inv X pins σ H2 { s2 with heap := h' } := I2.kept (t' := s2.toks) hk
      refine ⟨s2.heap.objs.size + 1, [s2.heap.objs.size + 1, s2.heap.objs.size], _, _, H2, rfl, I3, turn_enumN n a (s2.heap.objs.size + 1) s2.heap.objs.size, ⟨⟨.none, he⟩, ⟨_, hit, rfl, rfl⟩, Nat.succ_ne_self _⟩, fun b hb => ?_, q⟩
      have hle : s2.heap.objs.size ≤ b := by
        rcases (show b = s2.heap.objs.size + 1 ∨ b = s2.heap.objs.size by simpa using hb) with z | z
        · rw [z]; exact Nat.le_add_right _ _
        · rw [z]; exact Nat.le_refl _
      exact I2.fpOk hle (I2.hok.fresh hle)
section
variable {X : Cx} {a : Expr} {ta : TE}
/-- the truth of a text -/
def tTxt (ta : TE) : TT := fun σ H Q => ta σ H fun x H' => ∃ y : Str, x = .str y ∧ y.length ≤ sizeLine ∧ Q (decide (TL.tl y ≠ [])) H'
theorem pt_txt (ha : PE X a ta) (he : ∀ whole, isTrue a X.env whole = (do let v ← whole; standAt a.pos; holding [v] (truthy v)) := by intro _; rfl) : PT X a (tTxt ta) := by
  refine ⟨fun pins s σ H Q I h => ?_⟩
  refine isTrue_plain (thn (ha.run pins s σ H _ I h) fun v s1 ⟨x, H1, I1, r1, q1⟩ => ?_) (he _)
  obtain ⟨y, rfl, hz, q⟩ := q1
  refine tru_ok pins s1 σ H1 (.str y) v Q I1 r1 ⟨decide (TL.tl y ≠ []), ⟨hz, ?_⟩, q⟩
  rw [Bool.eq_iff_iff, decide_eq_true_eq, bne_iff_ne, ← List.length_pos_iff, ← TL.len_tl]
  omega
end
end Vf
set_option Elab.async false
set_option linter.all false
set_option maxRecDepth 100000
set_option maxHeartbeats 4000000
namespace Vf
open PySem L2 PyProof.Rows
theorem ShapeAt.same {K : PySem.W.Frag} {C o : Addr} {H H' : Hp} {z : Str} {rs : List (List Int)} {es : List Int} (c : ShapeAt K C H o z rs es) (s : Same H H') : ShapeAt K C H' o z rs es := by
  obtain ⟨dx, R, E, h1, h2, h3⟩ := c
  exact ⟨dx, R, E, s _ _ h1, h2.mv (Kl.same s), h3.mv (Kl.same s)⟩
theorem strange_none {z y : Str} (h : strange z y = none) : ∀ c ∈ TL.tl y, c ∈ TL.tl z := fun c hc => by
  have := List.findIdx?_eq_none_iff.mp h c hc
  simpa using this
def isDig (c : Nat) : Bool := decide (48 ≤ c) && decide (c ≤ 57)
theorem dig_uni : ∀ c : Nat, c < 128 → Unicode.isDigit c = isDig c := by decide +kernel
/-- the whole number that a word is -/
def numW (w : List Nat) : Option Nat := if w.all isDig = true ∧ w ≠ [] ∧ w.length ≤ 4000 ∧ (w.head? = some 48 → w = [48]) then some (NumText.digitsVal w) else none
theorem uni_all {x : Str} : (Txt.isascii x && Txt.isdigit x) = true ↔ (TL.tl x).all isDig = true ∧ TL.tl x ≠ [] := by
  unfold Txt.isascii Txt.isdigit
  rw [Bool.and_eq_true, Bool.and_eq_true, ← Array.all_toList, ← Array.all_toList, List.all_eq_true, List.all_eq_true, List.all_eq_true, decide_eq_true_eq]
  have hlen : x.length > 0 ↔ TL.tl x ≠ [] := by rw [TL.len_tl]; exact List.length_pos_iff
  constructor
  · rintro ⟨h1, h2, h3⟩
    refine ⟨fun c hc => ?_, hlen.mp h2⟩
    have := h3 c hc
    rw [dig_uni c (by simpa using h1 c hc)] at this
    exact this
  · rintro ⟨h1, h2⟩
    have h128 : ∀ c ∈ TL.tl x, c < 128 := fun c hc => by
      have := h1 c hc
      unfold isDig at this
      rw [Bool.and_eq_true, decide_eq_true_eq, decide_eq_true_eq] at this
      omega
    refine ⟨fun c hc => by simpa using h128 c hc, hlen.mpr h2, fun c hc => ?_⟩
    rw [dig_uni c (h128 c hc)]
    exact h1 c hc
theorem dig_all {w : List Nat} (h : w.all isDig = true) : NumText.AllDigits w := by
  intro c hc
  have := List.all_eq_true.mp h c hc
  unfold isDig at this
  rw [Bool.and_eq_true, decide_eq_true_eq, decide_eq_true_eq] at this
  exact this
def srt (L l : List Nat) : List Nat := L.filter fun a => decide (a ∈ l)
theorem srt_mem {L l : List Nat} (h : ∀ a ∈ l, a ∈ L) (a : Nat) : a ∈ srt L l ↔ a ∈ l := by
  unfold srt
  rw [List.mem_filter, decide_eq_true_eq]
  exact ⟨fun q => q.2, fun q => ⟨h a q, q⟩⟩
theorem inc_ext : ∀ {a b : List Nat}, a.Pairwise (· < ·) → b.Pairwise (· < ·) → (∀ x, x ∈ a ↔ x ∈ b) → a = b
  | [], [], _, _, _ => rfl
  | [], y :: b, _, _, h => nomatch (h y).mpr List.mem_cons_self
  | x :: a, [], _, _, h => nomatch (h x).mp List.mem_cons_self
  | x :: a, y :: b, ha, hb, h => by
    obtain ⟨a1, a2⟩ := List.pairwise_cons.mp ha
    obtain ⟨b1, b2⟩ := List.pairwise_cons.mp hb
    have e : x = y := by
      rcases List.mem_cons.mp ((h x).mp List.mem_cons_self) with q | q
      · exact q
      · rcases List.mem_cons.mp ((h y).mpr List.mem_cons_self) with r | r
        · exact r.symm
        · have := a1 y r
          have := b1 x q
          omega
    subst e
    rw [inc_ext a2 b2 fun u => ⟨fun q => ?_, fun q => ?_⟩]
    · rcases List.mem_cons.mp ((h u).mp (List.mem_cons_of_mem _ q)) with r | r
      · have := a1 u q; omega
      · exact r
    · rcases List.mem_cons.mp ((h u).mpr (List.mem_cons_of_mem _ q)) with r | r
      · have := b1 u q; omega
      · exact r
theorem srt_eq {L l : List Nat} {ys : List Str} (hL : L.Pairwise (· < ·)) (hl : ∀ a ∈ l, a ∈ L) (h1 : PyProof.Rows.sortedS ys = true) (h2 : ys.Nodup) (h3 : ∀ k, k ∈ ys ↔ k ∈ l.map sg) : ys = (srt L l).map sg := by
  have e : ys = (ys.map fun y => (TL.tl y).headD 0).map sg := by
    rw [List.map_map]
    refine (List.map_id ys).symm.trans (List.map_congr_left fun y hy => ?_)
    obtain ⟨a, _, rfl⟩ := List.mem_map.mp ((h3 y).mp hy)
    rfl
  generalize ys.map (fun y => (TL.tl y).headD 0) = cs at e
  subst e
  have n1 : cs.Nodup := List.Pairwise.of_map sg (fun a b q => fun z => q (by rw [z])) h2
  have p1 : cs.Pairwise (· < ·) := (sorted_sg h1).imp₂ (S := fun a b => a ≠ b) (fun a b h1 h2 => by omega) n1
  have e2 : cs = srt L l := inc_ext p1 (hL.filter _) fun a => (show a ∈ cs ↔ a ∈ l from ?_).trans (srt_mem hl a).symm
  · rw [e2]
  refine ⟨fun q => ?_, fun q => ?_⟩
  · obtain ⟨b, hb, e⟩ := List.mem_map.mp ((h3 (sg a)).mp (List.mem_map.mpr ⟨a, q, rfl⟩))
    rw [← sg_inj e]; exact hb
  · obtain ⟨b, hb, e⟩ := List.mem_map.mp ((h3 (sg a)).mpr (List.mem_map.mpr ⟨a, q, rfl⟩))
    rw [← sg_inj e]; exact hb
def subs : List Nat → List (List Nat)
  | [] => [[]]
  | a :: r => subs r ++ (subs r).map (a :: ·)
theorem subs_len : ∀ L : List Nat, (subs L).length = 2 ^ L.length
  | [] => rfl
  | a :: r => by
    show (subs r ++ (subs r).map (a :: ·)).length = _
    rw [List.length_append, List.length_map, subs_len r, List.length_cons, Nat.pow_succ]
    omega
theorem eqv_strs (x y : List Str) : PyData.eqv (.list (x.map PyData.str)) (.list (y.map PyData.str)) = decide (x = y) := by
  rw [PyData.eqv]
  exact eqvAll_inj (fun a b => by rw [Bool.eq_iff_iff]; simp [PyData.eqv]) x y
theorem lay_sgs : ∀ {l : List Nat}, (∀ c ∈ l, c < 1114112) → PyData.canLayAll0 ((l.map sg).map PyData.str) = true
  | [], _ => by simp [PyData.canLayAll0]
  | c :: l, h => by
    have h1 := h c List.mem_cons_self
    have h2 := lay_sgs (l := l) fun d hd => h d (List.mem_cons_of_mem _ hd)
    have h3 : PyData.canLay0 (.str (sg c)) = true := by
      rw [PyData.canLay0]
      show PyData.strOk (sg c) = true
      unfold PyData.strOk
      rw [← Array.all_toList]
      show ([c].all (· < 0x110000)) = true
      simp [h1]
    simp only [List.map_cons, PyData.canLayAll0, h2, h3, Bool.and_self]
theorem shaped_sgs {l : List Nat} (h : ∀ c ∈ l, c < 1114112) : SeqAt.shaped (.list ((l.map sg).map PyData.str)) = true :=
  shaped_of (n := 1) (by rw [PyData.canLay0]; exact lay_sgs h) (by rw [PyData.depth, List.map_map]; have := depth_all (n := 0) (f := PyData.str ∘ sg) (fun _ => by simp [PyData.depth]) l; omega) (by decide)
theorem dpAll_strs (K : PySem.W.Frag) (H : Hp) : ∀ l : List Str, DpAll K H (l.map V.str) (l.map PyData.str)
  | [] => .nil
  | x :: l => .cons (.str x) (dpAll_strs K H l)
theorem map_sg_inj {a b : List Nat} (h : a.map sg = b.map sg) : a = b := by
  have := congrArg (List.map TL.tl) h
  rw [List.map_map, List.map_map] at this
  have e : ∀ l : List Nat, l.map (TL.tl ∘ sg) = l.map fun c => [c] := fun l => rfl
  rw [e, e] at this
  have f : ∀ l : List Nat, (l.map fun c => [c]).flatten = l := fun l => by
    induction l with
    | nil => rfl
    | cons c l ih => rw [List.map_cons, List.flatten_cons, ih]; rfl
  rw [← f a, ← f b, this]
theorem alpha_inc : alpha.Pairwise (· < ·) := by decide +kernel
theorem alpha_mem {c : Nat} : c ∈ alpha ↔ 97 ≤ c ∧ c ≤ 122 := by
  refine ⟨alpha_all c, fun h => ?_⟩
  have : ∀ d : Nat, d < 26 → 97 + d ∈ alpha := by decide +kernel
  have := this (c - 97) (by omega)
  rwa [show 97 + (c - 97) = c by omega] at this
def numV : Option Nat → V
  | none => .non
  | some n => .int (n : Nat)
section
variable {P : Program} {w : World} {K : PySem.W.Frag} {mg : Str → Option Value} {base : Heap}
def spReadN : Sp := fun vs H Q _ => ∃ x : Str, vs = [.str x] ∧ x.length ≤ 600 ∧ ∀ H', Same H H' → Q (numV (numW (TL.tl x))) H'
abbrev s_read_number : Stmt := top 10
abbrev N_read_number : List Str := ["word"]
abbrev P_read_number : List Str := ["word"]
theorem sc_read_number : FnScope N_read_number P_read_number (defScope s_read_number) := ⟨rfl, rfl, rfl, by decide +kernel, rfl, by decide +kernel, by decide +kernel⟩

theorem ok_readN {f : Addr} {fd : FuncData} (F : Fun K "read_number" "read_number" s_read_number f fd) (Tl : mg "len" = none) (Ti : mg "int" = none) (hmost : ∃ t, mg "MOST_DIGITS" = some (.int 4000 t)) : FnOk P w K mg base CX0 1 f fd P_read_number spReadN := by
  obtain ⟨mt, hmost⟩ := hmost
  refine F.ok sc_read_number (fun vs H Q E h => ?_) (fun cdv A outer s H vs Q E hr h => ?_)
  · obtain ⟨x, rfl, _⟩ := h
    rfl
  · obtain ⟨x, rfl, hl, k⟩ := h
    refine ⟨_, (pss_cons (ps_if (PW.pt (pw_or (pt_cmpR op_gt (pe_callB call_len (by rfl) Tl PySem.boot_len (pa_cons (pv 0) pa_nil)) (pe_glob (v := .int 4000) (by rfl) hmost ⟨_, rfl⟩) (nomark _)) (pw_or (pt_not (pt_val (pe_m0 PySem.F.slot_str_isascii PySem.F.type_str_isascii mt_isascii (pv 0)))) (pw_or1 (pt_not (pt_val (pe_m0 PySem.F.slot_str_isdigit PySem.F.type_str_isdigit mt_isdigit (pv 0)))))))) (pss_one (ps_ret pe_non)) pss_nil)
      (pss_cons (ps_if (PW.pt (pw_and (pt_cmpR op_eq (pe_ix ix_str (pv 0) pe_int (fun _ _ => rfl)) pe_str (nomark _)) (pw_and1 (pt_cmpR op_ne (pv 0) pe_str (nomark _))))) (pss_one (ps_ret pe_non)) pss_nil)
      (pss_one (ps_ret (pe_callTy call_int_str (by rfl) Ti boot_int (pa_cons (pv 0) pa_nil)))))), ?_⟩
    have hxs : x.length ≤ sizeLine := Nat.le_of_lt (small1000 (by omega))
    have bad : (Txt.isascii x && Txt.isdigit x) = false → Q .non H := fun h => by
      have := k H (Same.refl H)
      unfold numW at this
      rw [if_neg (fun q => by rw [uni_all.mpr ⟨q.1, q.2.1⟩] at h; cases h)] at this
      exact this
    refine ⟨_, rfl, _, _, rfl, ⟨hxs, rfl⟩, _, _, rfl, rfl, _, rfl, ite2 (fun c => absurd c (by simp; omega)) (fun _ => ?_)⟩
    refine ⟨_, rfl, ⟨_, rfl⟩, x, rfl, rfl, trivial, _, rfl, ?_⟩
    cases ha : Txt.isascii x with
    | false => exact bad (by rw [ha]; rfl)
    | true =>
      refine ⟨_, rfl, ⟨_, rfl⟩, x, rfl, rfl, trivial, _, rfl, ?_⟩
      cases hd : Txt.isdigit x with
      | false => exact bad (by rw [ha, hd]; rfl)
      | true =>
        obtain ⟨h1, h2⟩ := uni_all.mp (by rw [ha, hd]; rfl)
        obtain ⟨c0, r, hx⟩ : ∃ c0 r, TL.tl x = c0 :: r := by
          cases e : TL.tl x with
          | nil => exact absurd e h2
          | cons a b => exact ⟨a, b, rfl⟩
        have hc0 : (TL.tl x)[0]? = some c0 := by rw [hx]; rfl
        have e48 : ({ cps := #[c0] } : Str) = "0" ↔ c0 = 48 := ⟨fun q => sg_inj (q : sg c0 = sg 48), fun q => by rw [q]; rfl⟩
        have ex0 : x = "0" ↔ TL.tl x = [48] := ⟨fun q => by rw [q]; rfl, fun q => TL.ext_tl q⟩
        have hn : x.length = (TL.tl x).length := TL.len_tl x
        have good : (c0 = 48 → TL.tl x = [48]) → Q (.int ((NumText.digitsVal (TL.tl x) : Nat) : Int)) H := fun q => by
          have := k H (Same.refl H)
          unfold numW at this
          rw [if_pos ⟨h1, h2, by omega, fun z => by rw [hx] at z; exact q (Option.some.inj z)⟩] at this
          exact this
        have fin : (c0 = 48 → TL.tl x = [48]) → ∃ (a : Str) (n : Int), [V.str x] = [V.str a] ∧ intText? a = some n ∧ a.length ≤ 640 ∧ Q (V.int n) H := fun q =>
          ⟨x, _, rfl, intText_digits (x := x) (dig_all h1) h2 (by omega), by omega, good q⟩
        refine ⟨_, rfl, x, 0, c0, rfl, rfl, hxs, at_of' (show (0 : Int) = ((0 : Nat) : Int) from rfl) hc0, rfl, _, rfl, ite2 (fun c => ?_) (fun c => ?_)⟩
        · have c : c0 = 48 := e48.mp (by simpa using c)
          refine ⟨_, rfl, rfl, _, rfl, ite2 (fun c2 => ?_) (fun c2 => ?_)⟩
          · have c2 : x ≠ "0" := by simpa using c2
            have := k H (Same.refl H)
            unfold numW at this
            rw [if_neg (fun q => c2 (ex0.mpr (q.2.2.2 (by rw [hx, c]; rfl))))] at this
            exact this
          · have c2 : x = "0" := by simpa using c2
            exact ⟨_, rfl, fin fun _ => ex0.mp c2⟩
        · have c : c0 ≠ 48 := fun q => by rw [e48.mpr q] at c; simp at c
          exact ⟨_, rfl, fin fun q => absurd q c⟩
/-- one to three values, ascending -/
def okZ (z : List Nat) : Bool := (decide (1 ≤ z.length) && decide (z.length ≤ 3)) && (z.all (fun c => decide (97 ≤ c) && decide (c ≤ 122)) && decide (z.Pairwise (· < ·)))
def spAreV : Sp := fun vs H Q _ => ∃ x : Str, vs = [.str x] ∧ x.length ≤ 600 ∧ ∀ H', Same H H' → Q (.bl (okZ (TL.tl x))) H'
structure TxtAv (K : PySem.W.Frag) (mg : Str → Option Value) (fSP : Addr) : Prop where
  len : mg "len" = none
  list : mg "list" = none
  sorted : mg "sorted" = none
  set : mg "set" = none
  enumerate : mg "enumerate" = none
  mstrange_place : mg "strange_place" = some (.ref fSP)
  kstrange_place : PySem.W.keepIn K (.ref fSP) = true
abbrev s_are_values : Stmt := top 8
abbrev N_are_values : List Str := ["word"]
abbrev P_are_values : List Str := ["word"]
theorem sc_are_values : FnScope N_are_values P_are_values (defScope s_are_values) := ⟨rfl, rfl, rfl, by decide +kernel, rfl, by decide +kernel, by decide +kernel⟩

theorem ok_areV {f fSP : Addr} {fd fdSP : FuncData} (F : Fun K "are_values" "are_values" s_are_values f fd) (T : TxtAv K mg fSP) (FSP : Fun K "strange_place" "strange_place" s_strange_place fSP fdSP) (bstrange_place : Binds K fdSP P_strange_place []) : FnOk P w K mg base CX0 2 f fd P_are_values spAreV := by
  have Gstrange_place : FnOk P w K mg base CX0 1 fSP fdSP P_strange_place spStrange := ok_strange FSP ⟨T.enumerate⟩
  refine F.ok sc_are_values (fun vs H Q E h => ?_) (fun cdv A outer s H vs Q E hr h => ?_)
  · obtain ⟨x, rfl, _⟩ := h
    rfl
  · obtain ⟨x, rfl, hl, k⟩ := h
    have hu := hu_of hr
    refine ⟨_, (pss_cons (ps_if (PW.pt (pw_or (pt_not (pt_chain op_le op_le pe_int (pe_callB call_len (by rfl) T.len PySem.boot_len (pa_cons (pv 0) pa_nil)) pe_int)) (pw_or1 (pt_cmpR op_notN (pe_call Gstrange_place (hr.mono (by decide)) (by rfl) T.mstrange_place T.kstrange_place bstrange_place .nil pass0 (pa_cons pe_str (pa_cons (pv 0) pa_nil))) pe_non (nomark _))))) (pss_one (ps_ret pe_bl)) pss_nil)
      (pss_one (ps_ret (pe_cmpR (op_eqD hr.units) (pe_callTy (call_listT rfl) (by rfl) T.list boot_list (pa_cons (pv 0) pa_nil)) (pe_callB (call_sortT rfl) (by rfl) T.sorted boot_sorted (pa_cons (pe_callTy (call_setT rfl) (by rfl) T.set (by decide +kernel) (pa_cons (pv 0) pa_nil)) pa_nil)) (nomark _))))), ?_⟩
    have hxs : x.length ≤ sizeLine := Nat.le_of_lt (small1000 (by omega))
    have hn : x.length = (TL.tl x).length := TL.len_tl x
    have key := k
    unfold okZ at key
    have bad : (decide (1 ≤ (TL.tl x).length) && decide ((TL.tl x).length ≤ 3)) = false → ∀ H', Same H H' → Q (.bl false) H' := fun h H' s => by
      have := key H' s
      rw [h, Bool.false_and] at this
      exact this
    refine ⟨_, rfl, _, _, rfl, ⟨hxs, rfl⟩, _, _, rfl, rfl, _, rfl, ?_⟩
    by_cases l1 : 1 ≤ x.length
    · rw [if_pos (decide_eq_true (by omega))]
      refine ⟨_, _, rfl, rfl, _, rfl, ?_⟩
      by_cases l3 : x.length ≤ 3
      · refine ite2 (fun c => absurd c (by simp; omega)) (fun _ => ?_)
        refine ⟨_, rfl, "abcdefghijklmnopqrstuvwxyz", x, rfl, fun H1 s1 => ⟨rfl, _, rfl, ?_⟩⟩
        have hpre : (decide (1 ≤ (TL.tl x).length) && decide ((TL.tl x).length ≤ 3)) = true := by rw [Bool.and_eq_true, decide_eq_true_eq, decide_eq_true_eq]; omega
        rw [hpre, Bool.true_and] at key
        cases hs : strange "abcdefghijklmnopqrstuvwxyz" x with
        | some i =>
          refine ite2 (fun _ => ?_) (fun c => absurd (by simp) c)
          have hbad : ((TL.tl x).all fun c => decide (97 ≤ c) && decide (c ≤ 122)) = false := by
            rw [← Bool.not_eq_true, List.all_eq_true]
            intro q
            have h2 : strange "abcdefghijklmnopqrstuvwxyz" x = none := List.findIdx?_eq_none_iff.mpr fun c hc => by
              have := q c hc
              rw [Bool.and_eq_true, decide_eq_true_eq, decide_eq_true_eq] at this
              have h3 : c ∈ TL.tl "abcdefghijklmnopqrstuvwxyz" := alpha_mem.mpr this
              simpa using h3
            rw [h2] at hs
            cases hs
          have := key H1 s1
          rw [hbad, Bool.false_and] at this
          exact this
        | none =>
          refine ite2 (fun c => absurd c (by simp)) (fun _ => ?_)
          have hin : ∀ c ∈ TL.tl x, c ∈ alpha := fun c hc => strange_none hs c hc
          have hall : ((TL.tl x).all fun c => decide (97 ≤ c) && decide (c ≤ 122)) = true := by
            rw [List.all_eq_true]
            intro c hc
            rw [Bool.and_eq_true, decide_eq_true_eq, decide_eq_true_eq]
            exact alpha_mem.mp (hin c hc)
          rw [hall, Bool.true_and] at key
          refine ⟨_, rfl, x, rfl, by omega, fun p hp => ⟨_, rfl, (TL.tl x).map sg, Or.inl ⟨x, rfl, rfl⟩, by rw [List.length_map]; omega, fun q nn hq hcnt hnn => ⟨q, _, nn, rfl, upd_same, by rw [List.length_map] at hnn; omega, fun ys p2 hso hnd hmem hp2 => ?_⟩⟩⟩
          have eys : ys = (srt alpha (TL.tl x)).map sg := srt_eq alpha_inc hin hso hnd fun k => by rw [hmem k, decide_eq_true_eq]
          subst eys
          generalize TxO _ _ q _ nn = oT at hp2 ⊢
          have s3 := ((same_new (o := .lst (((TL.tl x).map sg).map V.str)) hp).trans (same_new (o := oT) hq)).trans (same_new (o := .lst (((srt alpha (TL.tl x)).map sg).map V.str)) hp2)
          have hp' := (same_new (o := .lst (((srt alpha (TL.tl x)).map sg).map V.str)) hp2) _ _ ((same_new (o := oT) hq) _ _ (upd_same (H := H1) (a := p) (o := .lst (((TL.tl x).map sg).map V.str))))
          have hsm : ∀ c ∈ srt alpha (TL.tl x), c < 1114112 := fun c hc => by
            have := alpha_mem.mp (List.mem_filter.mp hc).1
            omega
          refine ⟨.list (((TL.tl x).map sg).map PyData.str), .list (((srt alpha (TL.tl x)).map sg).map PyData.str), .lst (SqL.of hp') (dpAll_strs _ _ _), .lst (SqL.of upd_same) (dpAll_strs _ _ _), shaped_sgs (fun c hc => by have := alpha_mem.mp (hin c hc); omega), shaped_sgs hsm, ?_⟩
          rw [eqv_strs]
          have e : decide ((TL.tl x).map sg = (srt alpha (TL.tl x)).map sg) = decide ((TL.tl x).Pairwise (· < ·)) := by
            rw [Bool.eq_iff_iff, decide_eq_true_eq, decide_eq_true_eq]
            constructor
            · intro h
              rw [map_sg_inj h]
              exact alpha_inc.filter _
            · intro h
              have := inc_ext h (alpha_inc.filter fun a => decide (a ∈ TL.tl x)) fun a => (srt_mem hin a).symm
              rw [show srt alpha (TL.tl x) = TL.tl x from this.symm]
          rw [e]
          exact key _ (s1.trans s3)
      · refine ite2 (fun _ => ?_) (fun c => absurd (by simp; omega) c)
        exact bad (by rw [Bool.and_eq_false_iff]; right; rw [decide_eq_false_iff_not]; omega) H (Same.refl H)
    · rw [if_neg (by rw [decide_eq_true_eq]; omega)]
      refine ⟨_, rfl, ite2 (fun _ => ?_) (fun c => absurd rfl c)⟩
      exact bad (by rw [Bool.and_eq_false_iff]; left; rw [decide_eq_false_iff_not]; omega) H (Same.refl H)
end
end Vf
set_option Elab.async false
set_option linter.all false
set_option maxRecDepth 100000
set_option maxHeartbeats 4000000
/-! keys as data: membership and index in lists of keys -/
namespace Vf
open PySem L2 PyProof.Rows
theorem hu65 {k : Nat} {A : Around} (hr : Room k A) : A.units + 65 < cLine := by have := hr.un; omega
def kD : Key → PyData
  | .inl n => .int n
  | .inr s => .str s
def memD (k : List Key) : PyData := .tuple (k.map kD)
theorem eqv_kD (x y : Key) : PyData.eqv (kD x) (kD y) = decide (x = y) := by
  rw [Bool.eq_iff_iff]
  cases x <;> cases y <;> simp [kD, PyData.eqv]
theorem eqv_memD (x y : List Key) : PyData.eqv (memD x) (memD y) = decide (x = y) := by
  show PyData.eqv (.tuple (x.map kD)) (.tuple (y.map kD)) = _
  rw [PyData.eqv]; exact eqvAll_inj eqv_kD x y
def okK : Key → Prop
  | .inl _ => True
  | .inr s => PyData.strOk s = true
def okM (k : List Key) : Prop := ∀ x ∈ k, okK x
theorem lay_kD {x : Key} (h : okK x) : PyData.canLay0 (kD x) = true := by
  cases x with
  | inl n => simp [kD, PyData.canLay0]
  | inr s => simp only [kD, PyData.canLay0]; exact h
theorem lay_kDs : ∀ {k : List Key}, okM k → PyData.canLayAll0 (k.map kD) = true
  | [], _ => by simp [PyData.canLayAll0]
  | x :: r, h => by
    simp only [List.map_cons, PyData.canLayAll0, Bool.and_eq_true]
    exact ⟨lay_kD (h x List.mem_cons_self), lay_kDs fun y hy => h y (List.mem_cons_of_mem _ hy)⟩
theorem dep_kD (x : Key) : PyData.depth (kD x) ≤ 0 := by cases x <;> simp [kD, PyData.depth]
theorem dep_memD (k : List Key) : PyData.depth (memD k) ≤ 1 := by
  show PyData.depth (.tuple (k.map kD)) ≤ 1
  rw [PyData.depth]; have := depth_all dep_kD k; omega
theorem lay_memDs : ∀ {ks : List (List Key)}, (∀ k ∈ ks, okM k) → PyData.canLayAll0 (ks.map memD) = true
  | [], _ => by simp [PyData.canLayAll0]
  | x :: r, h => by
    simp only [List.map_cons, PyData.canLayAll0, Bool.and_eq_true]
    refine ⟨?_, lay_memDs fun y hy => h y (List.mem_cons_of_mem _ hy)⟩
    show PyData.canLay0 (.tuple (x.map kD)) = true
    simp only [PyData.canLay0]
    exact lay_kDs (h x List.mem_cons_self)
theorem shaped_memD {k : List Key} (h : okM k) : SeqAt.shaped (memD k) = true := shaped_of (n := 1) (by
    show PyData.canLay0 (.tuple (k.map kD)) = true
    simp only [PyData.canLay0]
    exact lay_kDs h) (dep_memD k) (by decide)
theorem shaped_memDs {ks : List (List Key)} (h : ∀ k ∈ ks, okM k) : SeqAt.shaped (.list (ks.map memD)) = true := shaped_of (n := 2) (by
    simp only [PyData.canLay0]
    exact lay_memDs h) (by rw [PyData.depth]; have := depth_all dep_memD ks; omega) (by decide)
theorem dpAll_k {K : PySem.W.Frag} (H : Hp) : ∀ k : List Key, DpAll K H (k.map kV) (k.map kD)
  | [] => .nil
  | .inl n :: k => .cons (.int n) (dpAll_k H k)
  | .inr s :: k => .cons (.str s) (dpAll_k H k)
theorem dp_mem {K : PySem.W.Frag} {H : Hp} {t : Addr} {k : List Key} (h : H t = some (.tup (k.map kV))) : Dp K H (.ref t) (memD k) := .tup (SqT.of h) (dpAll_k H k)

def mkS (l : List Nat) : Str := ⟨l.toArray⟩
theorem tl_mkS (l : List Nat) : TL.tl (mkS l) = l := by simp [mkS, TL.tl]
theorem mkS_tl (y : Str) : mkS (TL.tl y) = y := TL.ext_tl (tl_mkS _)
theorem mkS_snoc (l : List Nat) (c : Nat) : mkS l ++ sg c = mkS (l ++ [c]) := TL.ext_tl (by rw [TL.tl_append, tl_mkS, tl_mkS, sg_tl])
theorem mkS_len (l : List Nat) : (mkS l).length = l.length := by rw [TL.len_tl, tl_mkS]
theorem small13 {n : Nat} (h : n ≤ 100000) : n ≤ sizeLine := Nat.le_trans h (by decide)
/-- keys that are data -/
structure KdD {κ : Type} [DecidableEq κ] (kd : Kd κ) where
  dat : κ → PyData
  ok : κ → Prop
  dp : ∀ {K : PySem.W.Frag} {H : Hp} {v : V} {k : κ}, kd.at_ H v k → Dp K H v (dat k)
  eqv : ∀ a b, PyData.eqv (dat a) (dat b) = decide (a = b)
  lay : ∀ k, ok k → PyData.canLay0 (dat k) = true
  dep : ∀ k, PyData.depth (dat k) ≤ 1
def kddK : KdD kdK where
  dat := kD
  ok := okK
  dp := fun {K H v k} h => by
    cases k with
    | inl n => obtain rfl : v = .int n := h; exact .int n
    | inr s => obtain rfl : v = .str s := h; exact .str s
  eqv := eqv_kD
  lay := fun k h => lay_kD h
  dep := fun k => Nat.le_trans (dep_kD k) (by decide)
def kddT : KdD kdT where
  dat := memD
  ok := okM
  dp := fun {K H v k} h => by
    obtain ⟨b, rfl, hb⟩ := h
    exact dp_mem hb
  eqv := eqv_memD
  lay := fun k h => by
    show PyData.canLay0 (.tuple (k.map kD)) = true
    simp only [PyData.canLay0]
    exact lay_kDs h
  dep := dep_memD
section
variable {κ : Type} [DecidableEq κ] {kd : Kd κ} (D : KdD kd)
theorem KdD.layAll : ∀ {ks : List κ}, (∀ k ∈ ks, D.ok k) → PyData.canLayAll0 (ks.map D.dat) = true
  | [], _ => by simp [PyData.canLayAll0]
  | x :: r, h => by
    simp only [List.map_cons, PyData.canLayAll0, Bool.and_eq_true]
    exact ⟨D.lay x (h x List.mem_cons_self), KdD.layAll fun y hy => h y (List.mem_cons_of_mem _ hy)⟩
theorem KdD.shaped {k : κ} (h : D.ok k) : SeqAt.shaped (D.dat k) = true := shaped_of (n := 1) (D.lay k h) (D.dep k) (by decide)
theorem KdD.shapeds {ks : List κ} (h : ∀ k ∈ ks, D.ok k) : SeqAt.shaped (.list (ks.map D.dat)) = true := shaped_of (n := 2) (by
    simp only [PyData.canLay0]
    exact D.layAll h) (by rw [PyData.depth]; have := depth_all D.dep ks; omega) (by decide)
theorem KdD.any (ks : List κ) (k : κ) : ((ks.map D.dat).any fun z => PyData.eqv z (D.dat k)) = true ↔ k ∈ ks := by
  simp only [List.any_map, List.any_eq_true, Function.comp_apply, D.eqv, decide_eq_true_eq]
  exact ⟨fun ⟨x, hx, e⟩ => by rw [← e]; exact hx, fun h => ⟨k, h, rfl⟩⟩
theorem KdD.dps {K : PySem.W.Frag} {H : Hp} : ∀ {vs : List V} {ks : List κ}, Forall2 (kd.at_ H) vs ks → DpAll K H vs (ks.map D.dat)
  | [], [], _ => .nil
  | [], _ :: _, h => by have := h.1; cases this
  | _ :: _, [], h => by have := h.1; cases this
  | v :: vs, k :: ks, h => .cons (D.dp (h.2 0 v k rfl rfl)) (KdD.dps ⟨by have := h.1; simpa using this, fun i x y e1 e2 => h.2 (i + 1) x y e1 e2⟩)
end
theorem mt_indexDK {X : Cx} {K : PySem.W.Frag} (hK : X.K = K) (hu : X.A.units + 65 < cLine) : MtR X "list.index" (rIndexD K) := by subst hK; exact mt_indexD hu
theorem pe_bmK {X : Cx} {K : PySem.W.Frag} (hK : X.K = K) {T id : String} {name : Str} {r : V → List V → Hp → VK → Prop} {o e : Expr} {es : List Expr} {to : TE} {t : TA} {apos cpos : Pos} (pa : PlainAttrs T) (slot : Slot T name id) (hty : typeOf (.builtin id) = pure (.type "method_descriptor")) (hm : MtR X id r) (ho : PE X o to) (ha : PA X (e :: es) t)
    (hbase : attributeBase o name X.env (eval o X.env) = eval o X.env := by rfl)
    (hfew : ((backTo cpos (starEach (e :: es) X.env)).all (fun x => !x.1) && (backToKw cpos (keywordEach [] X.env)).all (fun x => x.1.isSome)
      && decide ((e :: es).length + ([] : List Keyword).length + (if ([] : List Keyword).isEmpty then 0 else 1) < 30)) = true := by rfl)
    (hline : (apos.endLine == cpos.line) = true := by rfl) (hs : starEach (e :: es) X.env = (false, eval e X.env) :: starEach es X.env := by rfl) (hplain : (backTo cpos (starEach es X.env)).any (·.1) = false := by rfl) :
    PE X (.Call (.Attribute o name apos) (e :: es) [] cpos) (tBM K T r to t) := by
  subst hK; exact pe_bm pa slot hty hm ho ha hbase hfew hline hs hplain
/-- a def that may raise, where it raises nothing -/
theorem FnOk.calm {P : Program} {w : World} {K : PySem.W.Frag} {mg : Str → Option Value} {base : Heap} {k : Nat} {f : Addr} {fd : FuncData} {ps : List Str} {sp : Sp} (F : FnOk P w K mg base (L2.CX P w) k f fd ps sp) : FnOk P w K mg base CX0 k f fd ps (fun vs H Q _ => sp vs H Q E0) :=
  ⟨fun vs H Q E q => F.len _ _ _ _ q, fun A outer s H args us vs Q E hr he hb hv hs => codeAny_mono (F.run A outer s H args us vs Q E0 hr he hb hv hs) fun r s' h => by
    cases r with
    | error e =>
      obtain ⟨_, _, _, _, _, _, _, _, _, _, _, _, z⟩ := h
      exact z.elim
    | ok fl => cases fl <;> exact h⟩
/-! where lambdas stand -/
def stVal : Stmt → Expr
  | .Assign _ v _ => v
  | .Return (some v) _ => v
  | _ => .Constant .none 0 ⟨0, 0, 0, 0⟩
def argN : Expr → Nat → Expr
  | .Call _ as _ _, i => as.getD i (.Constant .none 0 ⟨0, 0, 0, 0⟩)
  | e, _ => e
def lamScope : Expr → Scope
  | .Lambda _ _ s _ => s
  | _ => default
def lamBody : Expr → Expr
  | .Lambda _ b _ _ => b
  | e => e
def lamArgs : Expr → Arguments
  | .Lambda a _ _ _ => a
  | _ => default

open NdefX LamX in
def LF (e : Expr) (qual : Str) (cl : List (Str × Addr)) (c : Addr) : NF := ⟨"<lambda>", qual, lamArgs e, [], lamScope e, cl, c⟩
def forBody : Stmt → Nat → Stmt
  | .For _ _ b _ _, j => b.getD j (.Pass ⟨0, 0, 0, 0⟩)
  | s, _ => s
def ifTest : Stmt → Expr
  | .If t _ _ _ => t
  | _ => .Constant .none 0 ⟨0, 0, 0, 0⟩
def cmpLeft : Expr → Expr
  | .Compare l _ _ _ => l
  | e => e
def boolN : Expr → Nat → Expr
  | .BoolOp _ vs _, j => vs.getD j (.Constant .none 0 ⟨0, 0, 0, 0⟩)
  | e, _ => e
end Vf
set_option Elab.async false
set_option linter.all false
set_option maxRecDepth 100000
set_option maxHeartbeats 4000000
namespace Vf
open PySem L2 PyProof.Rows
/-- the words of a line, the lines of a text -/
def wordsOf (l : List Nat) : List (List Nat) := (TL.spl [32] 0 [] l).filter fun w => decide (w ≠ [])
def linesOf (t : List Nat) : List (List Nat) := TL.spl [10] 0 [] t
def okN (n : Nat) (w : List Nat) : Bool := match numW w with
  | some k => decide (k < n)
  | none => false
def valN (w : List Nat) : Nat := (numW w).getD 0
def goalsW (m n : Nat) (ws : List (List Nat)) : Option (List Nat) := if ws.length = m ∧ ws.all (okN n) = true then some (ws.map valN) else none
def badN (n : Nat) (w : List Nat) : Bool := !okN n w
section
variable {P : Program} {w : World} {K : PySem.W.Frag} {mg : Str → Option Value} {base : Heap}
def spReadG (K : PySem.W.Frag) : Sp := fun vs H Q _ => ∃ (r : Addr) (ws : List (List Nat)) (m n : Nat), vs = [.ref r, .int m, .int n] ∧ SqL K H r (ws.map fun w => V.str (mkS w)) ∧ ws.length ≤ 700 ∧ (∀ w ∈ ws, w.length ≤ 600) ∧
  (goalsW m n ws = none → ∀ H', Same H H' → Q .non H') ∧ (∀ gs, goalsW m n ws = some gs → ∀ a H', Same H H' → H a = none → H' a = some (.lst ((gs.map Int.ofNat).map V.int)) → Q (.ref a) H')
structure TxtRG (K : PySem.W.Frag) (mg : Str → Option Value) (fRN : Addr) : Prop where
  len : mg "len" = none
  any : mg "any" = none
  mread_number : mg "read_number" = some (.ref fRN)
  kread_number : PySem.W.keepIn K (.ref fRN) = true
abbrev s_read_goals : Stmt := top 15
abbrev N_read_goals : List Str := ["words", "values", "states", "goals", "word", "goal"]
abbrev P_read_goals : List Str := ["words", "values", "states"]
theorem sc_read_goals : FnScope N_read_goals P_read_goals (defScope s_read_goals) := ⟨rfl, rfl, rfl, by decide +kernel, rfl, by decide +kernel, by decide +kernel⟩

theorem ok_readG {f fRN : Addr} {fd fdRN : FuncData} (F : Fun K "read_goals" "read_goals" s_read_goals f fd) (T : TxtRG K mg fRN) (Gread_number : FnOk P w K mg base CX0 1 fRN fdRN P_read_number spReadN) (bread_number : Binds K fdRN P_read_number []) : FnOk P w K mg base CX0 2 f fd P_read_goals (spReadG K) := by
  refine F.ok sc_read_goals (fun vs H Q E h => ?_) (fun cdv A outer s H vs Q E hr h => ?_)
  · obtain ⟨r, ws, m, n, rfl, _⟩ := h
    rfl
  · obtain ⟨r, ws, m, n, rfl, hS, hl, hwl, k0, k1⟩ := h
    have hu := hu_of hr
    refine ⟨_, (pss_cons (ps_setLc (i := 3) (own := [("word", 4)]) (g := gName 4) (by rfl) sc_read_goals.nd rfl rfl (sw_true rfl rfl rfl (by decide +kernel)) (pi_seq (K := K) rfl (pv 0)) (blkOk_by (own := [("word", 4)]) (N := N_read_goals) (sc := defScope s_read_goals) (by decide +kernel)) (fun _ _ _ _ _ => pg_name (i := 4) sc_read_goals.nd rfl (Or.inl rfl)) (fun _ _ _ _ _ => pts_nil) (fun _ _ _ _ _ => (pe_call Gread_number (hr.mono (by decide)) (by rfl) T.mread_number T.kread_number bread_number .nil pass0 (pa_cons (pv 4) pa_nil))))
      (pss_cons (ps_if (PW.pt (pw_or (pt_cmpR op_ne (pe_callB call_len (by rfl) T.len PySem.boot_len (pa_cons (pv 3) pa_nil)) (pv 1) (nomark _)) (pw_or1 (pt_val (pe_callB (cr_any rfl) (by rfl) T.any boot_any (pa_cons (pe_lc (own := [("goal", 5)]) (g := gName 5) (by rfl) sc_read_goals.nd (pi_seq (K := K) rfl (pv 3)) (blkOk_by (own := [("goal", 5)]) (N := N_read_goals) (sc := defScope s_read_goals) (by decide +kernel)) (fun _ _ _ _ _ => pg_name (i := 5) sc_read_goals.nd rfl (Or.inl rfl)) (fun _ _ _ _ _ => pts_nil) (fun _ _ _ _ _ => (L2.pe_or (pe_cmpR op_isN1 (pv 5) pe_non (nomark _)) (pe_one (pe_cmpR op_ge (pv 5) (pv 2) (nomark _)))))) pa_nil)))))) (pss_one (ps_ret pe_non)) pss_nil)
      (pss_one (ps_ret (pv 3))))), ?_⟩
    refine ⟨_, rfl, r, _, rfl, Or.inl hS, fun J hJ D hD => lc_it hJ (fun i H1 => H1 D = some (.lst ((ws.take i).map fun w => numV (numW w))) ∧ Same H H1) ⟨upd_same, same_new hD⟩ (fun i H1 _ ⟨_, s1⟩ => GSq.same s1) ?_ ?_⟩
    · rintro i x H2 H1 hi ⟨hD1, s1⟩ ⟨rfl, hx⟩
      rw [List.length_map] at hi
      obtain rfl : V.str (mkS ws[i]) = x := by
        rw [List.getElem?_map, List.getElem?_eq_getElem hi] at hx
        exact Option.some.inj hx
      have hwi := hwl _ (List.getElem_mem hi)
      refine ⟨rfl, ?_⟩
      refine lcYes ?_
      refine ⟨_, rfl, mkS ws[i], rfl, by rw [TL.len_tl, tl_mkS]; exact hwi, fun H3 s3 => ?_⟩
      rw [tl_mkS]
      refine ⟨_, s3 _ _ hD1, by rw [List.length_map, List.length_take]; exact small1000 (by omega), ?_, (s1.trans s3).put hD⟩
      rw [upd_same, take_more hi, List.map_append]; rfl
    · rintro H1 ⟨hD1, s1⟩
      rw [List.length_map, List.take_length] at hD1
      refine ⟨_, rfl, _, _, rfl, Or.inl ⟨_, SqL.of hD1, rfl⟩, _, rfl, rfl, _, rfl, ?_⟩
      by_cases hm : ws.length = m
      · refine ite2 (fun c => absurd c (by rw [List.length_map, hm]; simp)) (fun _ => ?_)
        refine ⟨_, rfl, D, _, rfl, Or.inl (SqL.of hD1), fun J2 hJ2 D2 hD2 => lc_it hJ2 (fun i H2 => H2 D2 = some (.lst (((ws.take i).map (badN n)).map V.bl)) ∧ Same H1 H2) ⟨upd_same, same_new hD2⟩ (fun i H2 _ ⟨_, s2⟩ => GSq.same s2) ?_ ?_⟩
        · rintro i x H3 H2 hi ⟨hD3, s2⟩ ⟨rfl, hx⟩
          rw [List.length_map] at hi
          obtain rfl : numV (numW ws[i]) = x := by
            rw [List.getElem?_map, List.getElem?_eq_getElem hi] at hx
            exact Option.some.inj hx
          have hlen : (((ws.take i).map (badN n)).map V.bl).length < sizeLine := by rw [List.length_map, List.length_map, List.length_take]; exact small1000 (by omega)
          have put : ∀ b : Bool, b = badN n ws[i] → L2.upd H2 D2 (.lst (((ws.take i).map (badN n)).map V.bl ++ [V.bl b])) D2 = some (.lst (((ws.take (i + 1)).map (badN n)).map V.bl)) ∧ Same H1 (L2.upd H2 D2 (.lst (((ws.take i).map (badN n)).map V.bl ++ [V.bl b]))) := fun b hb => ⟨by rw [upd_same, take_more hi, List.map_append, List.map_append, hb]; rfl, s2.put hD2⟩
          refine ⟨rfl, ?_⟩
          refine lcYes ?_
          refine ⟨_, rfl, rfl, _, rfl, ?_⟩
          cases hw : numW ws[i] with
          | none =>
            refine ite2 (fun _ => ?_) (fun c => absurd (by simp [numV]) c)
            exact ⟨_, hD3, hlen, put true (by unfold badN okN; rw [hw]; rfl)⟩
          | some k =>
            refine ite2 (fun c => absurd c (by simp [numV])) (fun _ => ?_)
            refine ⟨_, rfl, _, rfl, _, _, rfl, rfl, _, hD3, hlen, put _ ?_⟩
            unfold badN okN
            rw [hw, Bool.eq_iff_iff, decide_eq_true_eq, Bool.not_eq_true', decide_eq_false_iff_not]
            omega
        · rintro H2 ⟨hD2', s2⟩
          rw [List.length_map, List.take_length] at hD2'
          have s12 := s1.trans s2
          refine ⟨D2, _, rfl, SqL.of hD2', _, rfl, ite2 (fun c3 => ?_) (fun c3 => ?_)⟩
          · refine k0 ?_ _ s12
            unfold goalsW
            rw [if_neg]
            rintro ⟨_, h⟩
            rw [List.any_eq_true] at c3
            obtain ⟨b, hb, rfl⟩ := c3
            obtain ⟨u, hu', e⟩ := List.mem_map.mp hb
            unfold badN at e
            rw [List.all_eq_true.mp h u hu'] at e
            cases e
          · have hall : ws.all (okN n) = true := by
              rw [List.all_eq_true]
              intro u hu'
              refine Classical.byContradiction fun q => c3 (List.any_eq_true.mpr ⟨true, List.mem_map.mpr ⟨u, hu', ?_⟩, rfl⟩)
              unfold badN
              rw [Bool.not_eq_true] at q
              rw [q]; rfl
            have hgw : goalsW m n ws = some (ws.map valN) := by unfold goalsW; rw [if_pos ⟨hm, hall⟩]
            refine ⟨_, rfl, k1 _ hgw D _ s12 hD ?_⟩
            rw [s2 _ _ hD1, List.map_map, List.map_map]
            refine congrArg (fun l => some (HO.lst l)) (List.map_congr_left fun u hu' => ?_)
            have := List.all_eq_true.mp hall u hu'
            unfold okN at this
            cases hw : numW u with
            | none => rw [hw] at this; cases this
            | some k =>
              show V.int (k : Int) = V.int (Int.ofNat (valN u))
              unfold valN
              rw [hw]; rfl
      · refine ite2 (fun _ => ?_) (fun c => absurd (by rw [List.length_map]; simp; omega) c)
        refine k0 ?_ _ s1
        unfold goalsW
        rw [if_neg fun q => hm q.1]
end
end Vf
set_option Elab.async false
set_option linter.all false
set_option maxRecDepth 100000
set_option maxHeartbeats 4000000
namespace Vf
open PySem L2 PyProof.Rows
theorem ixN_nat {n i : Nat} (h : i < n) : ixN n (i : Int) = some i := by
  unfold ixN
  rw [if_pos (by omega), if_pos (by omega)]; simp
theorem cutV_toN {xs : List V} {j : Nat} : cutV xs none (some (j : Int)) = xs.take j := by
  unfold cutV
  rw [HT.sIx_none, HT.sIx_nat, List.drop_zero, Nat.sub_zero]
  by_cases h : j ≤ xs.length
  · rw [Nat.min_eq_left h]
  · rw [Nat.min_eq_right (by omega), List.take_of_length_le (Nat.le_refl _), List.take_of_length_le (by omega)]
theorem cutV_fromN {xs : List V} {j : Nat} : cutV xs (some (j : Int)) none = xs.drop j := by
  unfold cutV
  rw [HT.sIx_none, HT.sIx_nat]
  by_cases h : j ≤ xs.length
  · rw [Nat.min_eq_left h]; exact List.take_of_length_le (by rw [List.length_drop]; exact Nat.le_refl _)
  · rw [Nat.min_eq_right (by omega), List.drop_of_length_le (Nat.le_refl _), List.drop_of_length_le (by omega), List.take_nil]
theorem spl_len (S : List Nat) : ∀ (k : Nat) (acc l : List Nat), ∀ p ∈ TL.spl S k acc l, p.length ≤ acc.length + l.length
  | k, acc, [], p, h => by
    rw [TL.spl_nil, List.mem_singleton] at h
    rw [h]
    exact Nat.le_add_right _ _
  | 0, acc, c :: r, p, h => by
    have e : TL.spl S 0 acc (c :: r) = if TL.pre S (c :: r) = true then acc :: TL.spl S (S.length - 1) [] r else TL.spl S 0 (acc ++ [c]) r := rfl
    rw [e] at h
    split at h
    · rcases List.mem_cons.mp h with q | q
      · rw [q]; exact Nat.le_add_right _ _
      · have := spl_len S _ [] r p q
        rw [List.length_cons]
        show p.length ≤ _
        rw [List.length_nil] at this
        omega
    · have := spl_len S 0 _ r p h
      rw [List.length_append, List.length_singleton] at this
      rw [List.length_cons]
      omega
  | k + 1, acc, c :: r, p, h => by
    have := spl_len S k acc r p h
    rw [List.length_cons]
    omega
theorem split_nl (x : Str) : Txt.split x "\n" = (linesOf (TL.tl x)).map mkS := by
  have := SX.split_S (a := TL.tl x) (b := [10]) (by decide) (by decide)
  rw [show SX.S (TL.tl x) = x from mkS_tl x, show SX.S [10] = ("\n" : Str) by rfl] at this
  exact this
theorem split_sp (x : Str) : Txt.split x " " = (TL.spl [32] 0 [] (TL.tl x)).map mkS := by
  have := SX.split_S (a := TL.tl x) (b := [32]) (by decide) (by decide)
  rw [show SX.S (TL.tl x) = x from mkS_tl x, show SX.S [32] = (" " : Str) by rfl] at this
  exact this
theorem spl_ne (S : List Nat) : ∀ (k : Nat) (acc l : List Nat), TL.spl S k acc l ≠ []
  | k, acc, [] => by rw [TL.spl_nil]; exact List.cons_ne_nil _ _
  | 0, acc, c :: r => by
    have e : TL.spl S 0 acc (c :: r) = if TL.pre S (c :: r) = true then acc :: TL.spl S (S.length - 1) [] r else TL.spl S 0 (acc ++ [c]) r := rfl
    rw [e]
    split
    · exact List.cons_ne_nil _ _
    · exact spl_ne S 0 _ r
  | k + 1, acc, c :: r => spl_ne S k acc r
def headZ (title : List Nat) : List (List (List Nat)) → Option (List Nat)
  | [t, z] :: _ => if t = title ∧ okZ z = true then some z else none
  | _ => none
theorem headZ_none {t : List Nat} {W : List (List Nat)} {L : List (List (List Nat))} (h : W.length ≠ 2) : headZ t (W :: L) = none := by
  rcases W with _ | ⟨a, _ | ⟨b, _ | ⟨c, r⟩⟩⟩
  · rfl
  · rfl
  · exact absurd rfl h
  · rfl
theorem headZ_two {t a b : List Nat} {L : List (List (List Nat))} : headZ t ([a, b] :: L) = if a = t ∧ okZ b = true then some b else none := rfl
def textL (t : List Nat) : List (List (List Nat)) := (linesOf t).map wordsOf
def wordV (w : List Nat) : V := .str (mkS w)
/-- lists of words -/
def WordsAt (H : Hp) (r : Addr) (L : List (List (List Nat))) : Prop := ∃ rs : List Addr, H r = some (.lst (rs.map V.ref)) ∧ Forall2 (fun (a : Addr) (ws : List (List Nat)) => H a = some (.lst (ws.map wordV))) rs L
def EBT (CT : Addr) (H : Hp) (E : XK) (i : Int) : Prop := ∀ d H', Raised H H' d "line" (.int i) → E (.ref CT) (some d) H'
structure TxtRL (K : PySem.W.Frag) (mg : Str → Option Value) (B CT fT fAv : Addr) : Prop where
  base : BaseT K mg "CodeError" B
  bt : ErrT K mg "BadText" "line" CT fT
  len : mg "len" = none
  mare_values : mg "are_values" = some (.ref fAv)
  kare_values : PySem.W.keepIn K (.ref fAv) = true
section
variable {P : Program} {w : World} {K : PySem.W.Frag} {mg : Str → Option Value} {base : Heap}
abbrev s_BadText___init__ : Stmt := inClass (top 4) 0
abbrev N_BadText___init__ : List Str := ["self", "line"]
abbrev P_BadText___init__ : List Str := ["self", "line"]
theorem sc_BadText___init__ : FnScope N_BadText___init__ P_BadText___init__ (defScope s_BadText___init__) := ⟨rfl, rfl, rfl, by decide +kernel, rfl, by decide +kernel, by decide +kernel⟩

theorem ok_bt {f B C fI : Addr} {fd : FuncData} (F : Fun K "__init__" "BadText.__init__" s_BadText___init__ f fd) (Tb : BaseT K mg "CodeError" B) (T : ErrT K mg "BadText" "line" C fI) : FnOk P w K mg base CX0 1 f fd P_BadText___init__ (spErr C "line") := by
  refine F.ok sc_BadText___init__ (fun vs H Q E h => ?_) (fun cdv A outer s H vs Q E hr h => ?_)
  · obtain ⟨a, v, rfl, _⟩ := h
    rfl
  · obtain ⟨a, v, rfl, ha, k⟩ := h
    refine ⟨_, pss_cons (ps_expr (pe_clsinit Tb (by rfl) (pa_cons (pv 0) (pa_cons pe_str pa_nil)))) (pss_one (ps_ost (pv 0) (pv 1))), ?_⟩
    refine ⟨_, rfl, a, C, _, rfl, by show 1 ≤ 1000; decide, T.oex, ha, ?_⟩
    exact ⟨_, rfl, _, rfl, a, C, rfl, T.oex, T.nf, Or.inl ⟨ha, fun d h1 h2 => k d h1 h2⟩⟩
def spReadL (K : PySem.W.Frag) (CT : Addr) : Sp := fun vs H Q E => ∃ title text : Str, vs = [.str title, .str text] ∧ text.length ≤ 600 ∧
  (∀ z, headZ (TL.tl title) (textL (TL.tl text)) = some z → 2 ≤ (textL (TL.tl text)).length → ∀ t r H', Same H H' → H' t = some (.tup [.str (mkS z), .ref r]) → WordsAt H' r (textL (TL.tl text)).tail → Q (.ref t) H') ∧
  (headZ (TL.tl title) (textL (TL.tl text)) = none → EBT CT H E 1) ∧ (∀ z, headZ (TL.tl title) (textL (TL.tl text)) = some z → (textL (TL.tl text)).length < 2 → EBT CT H E 2)
abbrev s_read_lines : Stmt := top 9
abbrev N_read_lines : List Str := ["title", "text", "lines", "head", "line", "word"]
abbrev P_read_lines : List Str := ["title", "text"]
theorem sc_read_lines : FnScope N_read_lines P_read_lines (defScope s_read_lines) := ⟨rfl, rfl, rfl, by decide +kernel, rfl, by decide +kernel, by decide +kernel⟩

theorem ok_readL {f B CT fT fAv : Addr} {fd fdT fdAv : FuncData} (F : Fun K "read_lines" "read_lines" s_read_lines f fd) (T : TxtRL K mg B CT fT fAv) (FT : Fun K "__init__" "BadText.__init__" s_BadText___init__ fT fdT) (bT' : Binds K fdT P_BadText___init__ [])
    (Gare_values : FnOk P w K mg base CX0 2 fAv fdAv P_are_values spAreV) (bare_values : Binds K fdAv P_are_values []) : FnOk P w K mg base (L2.CX P w) 4 f fd P_read_lines (spReadL K CT) := by
  have GT' : FnOk P w K mg base CX0 1 fT fdT P_BadText___init__ (spErr CT "line") := ok_bt FT T.base T.bt
  refine F.okX sc_read_lines (fun vs H Q E h => ?_) (fun cdv A outer s H vs Q E hr h => ?_)
  · obtain ⟨title, text, rfl, _⟩ := h
    rfl
  · obtain ⟨title, text, rfl, hl, k1, k2, k3⟩ := h
    have hu := hu_of hr
    refine ⟨_, (pss_cons (ps_setLc (i := 2) (own := [("line", 4)]) (g := gName 4) (by rfl) sc_read_lines.nd rfl rfl (sw_true rfl rfl rfl (by decide +kernel)) (pi_seq (K := K) rfl (pe_split (pv 1) pe_str)) (blkOk_by (own := [("line", 4)]) (N := N_read_lines) (sc := defScope s_read_lines) (by decide +kernel)) (fun _ _ _ _ _ => pg_name (i := 4) sc_read_lines.nd rfl (Or.inl rfl)) (fun _ _ _ _ _ => pts_nil) (fun _ _ _ _ _ => (pe_lc (own := [("word", 5)]) (g := gName 5) (by rfl) sc_read_lines.nd (pi_seq (K := K) rfl (pe_split (pv 4) pe_str)) (blkOk_by (own := [("word", 5)]) (N := N_read_lines) (by with_unfolding_all rfl)) (fun _ _ _ _ _ => pg_name (i := 5) sc_read_lines.nd rfl (Or.inl rfl)) (fun _ _ _ _ _ => (pts_one (pt_txt (pv 5)))) (fun _ _ _ _ _ => (pv 5)))))
      (pss_cons (ps_set (i := 3) sc_read_lines.nd rfl (Or.inl rfl) (pe_ix ix_list (pv 2) pe_int (fun _ _ => rfl)))
      (pss_cons (ps_if (PW.pt (pw_or (pt_cmpR op_ne (pe_callB call_len (by rfl) T.len PySem.boot_len (pa_cons (pv 3) pa_nil)) pe_int (nomark _)) (pw_or (pt_cmpR op_ne (pe_ix ix_list (pv 3) pe_int (fun _ _ => rfl)) (pv 0) (nomark _)) (pw_or1 (pt_not (pt_val (pe_call Gare_values (hr.mono (by decide)) (by rfl) T.mare_values T.kare_values bare_values .nil pass0 (pa_cons (pe_ix ix_list (pv 3) pe_int (fun _ _ => rfl)) pa_nil)))))))) (pss_one (ps_raise rfl (takes_of rfl rfl rfl rfl) (pmk_oex T.bt.oex T.bt.iC T.bt.tI GT' (hr.mono (by decide)) bT' .nil pass0 (by rfl) T.bt.g (pa_cons pe_int pa_nil)))) pss_nil)
      (pss_cons (ps_if (pt_cmpR op_eq (pe_callB call_len (by rfl) T.len PySem.boot_len (pa_cons (pv 2) pa_nil)) pe_int (nomark _)) (pss_one (ps_raise rfl (takes_of rfl rfl rfl rfl) (pmk_oex T.bt.oex T.bt.iC T.bt.tI GT' (hr.mono (by decide)) bT' .nil pass0 (by rfl) T.bt.g (pa_cons pe_int pa_nil)))) pss_nil)
      (pss_one (ps_ret (pe_tup (pa_cons (pe_ix ix_list (pv 3) pe_int (fun _ _ => rfl)) (pa_cons (pe_slice sl_list (pv 2) (po_some pe_int) po_none) pa_nil))))))))), ?_⟩
    have hxs : text.length + 2 ≤ sizeLine := Nat.le_of_lt (small1000 (by omega))
    have hpl : ∀ p ∈ linesOf (TL.tl text), p.length ≤ 600 := fun p hp => by
      have := spl_len [10] 0 [] (TL.tl text) p hp
      rw [List.length_nil, ← TL.len_tl] at this
      omega
    have hnl : (linesOf (TL.tl text)).length ≤ 602 := by
      have h1 := PyProof.Rows.split_le text "\n"
      rw [split_nl, List.length_map] at h1
      omega
    refine ⟨_, rfl, ⟨_, rfl⟩, text, "\n", rfl, rfl, by decide +kernel, hxs, fun p hp => ?_⟩
    rw [split_nl]
    refine ⟨p, _, rfl, Or.inl (SqL.of upd_same), fun J hJ D hD => ?_⟩
    have s0 : Same H (L2.upd H p (.lst (((linesOf (TL.tl text)).map mkS).map V.str))) := same_new hp
    have hp0 : (L2.upd H p (.lst (((linesOf (TL.tl text)).map mkS).map V.str))) p = some (.lst (((linesOf (TL.tl text)).map mkS).map V.str)) := upd_same
    generalize L2.upd H p (.lst (((linesOf (TL.tl text)).map mkS).map V.str)) = H0 at s0 hp0 hJ hD ⊢
    refine lc_it hJ (fun i H1 => ∃ rs : List Addr, H1 D = some (.lst (rs.map V.ref)) ∧ Forall2 (fun (a : Addr) (ws : List (List Nat)) => H1 a = some (.lst (ws.map wordV))) rs ((textL (TL.tl text)).take i) ∧ (∀ r ∈ rs, r ≠ D) ∧ Same H0 H1)
      ⟨[], upd_same, ⟨rfl, fun i x y e1 e2 => nomatch e1⟩, (fun r hr => nomatch hr), same_new hD⟩ (fun i H1 _ ⟨_, _, _, _, s1⟩ => GSq.same s1) ?_ ?_
    · rintro i x H2 H1 hi ⟨rs, hD1, hf, hne, s1⟩ ⟨rfl, hx⟩
      rw [List.length_map, List.length_map] at hi
      have hti : i < (textL (TL.tl text)).length := by unfold textL; rw [List.length_map]; exact hi
      have hlrs : rs.length = i := by rw [hf.1, List.length_take]; omega
      obtain rfl : V.str (mkS (linesOf (TL.tl text))[i]) = x := by
        rw [List.getElem?_map, List.getElem?_map, List.getElem?_eq_getElem hi] at hx
        exact Option.some.inj hx
      have hwi := hpl _ (List.getElem_mem hi)
      have hml : (mkS (linesOf (TL.tl text))[i]).length ≤ 600 := by rw [TL.len_tl, tl_mkS]; exact hwi
      refine ⟨rfl, ?_⟩
      refine lcYes ?_
      refine ⟨_, rfl, ⟨_, rfl⟩, mkS (linesOf (TL.tl text))[i], " ", rfl, rfl, by decide +kernel, Nat.le_of_lt (small1000 (by omega)), fun q hq => ?_⟩
      rw [split_sp, tl_mkS]
      have hD2 := same_new (o := .lst (((TL.spl [32] 0 [] (linesOf (TL.tl text))[i]).map mkS).map V.str)) hq _ _ hD1
      have s2 := s1.trans (same_new (o := .lst (((TL.spl [32] 0 [] (linesOf (TL.tl text))[i]).map mkS).map V.str)) hq)
      have hf2 : Forall2 (fun (a : Addr) (ws : List (List Nat)) => (L2.upd H1 q (.lst (((TL.spl [32] 0 [] (linesOf (TL.tl text))[i]).map mkS).map V.str))) a = some (.lst (ws.map wordV))) rs ((textL (TL.tl text)).take i) := hf.imp fun x y _ h => same_new hq _ _ h
      refine ⟨q, _, rfl, Or.inl (SqL.of upd_same), fun J2 hJ2 D2 hD2' => ?_⟩
      generalize L2.upd H1 q (.lst (((TL.spl [32] 0 [] (linesOf (TL.tl text))[i]).map mkS).map V.str)) = H2 at hD2 s2 hf2 hJ2 hD2' ⊢
      have hspl : (TL.spl [32] 0 [] (linesOf (TL.tl text))[i]).length ≤ 602 := by
        have h1 := PyProof.Rows.split_le (mkS (linesOf (TL.tl text))[i]) " "
        rw [split_sp, List.length_map, tl_mkS] at h1
        omega
      have hspw : ∀ p ∈ TL.spl [32] 0 [] (linesOf (TL.tl text))[i], p.length ≤ 600 := fun p hp => by
        have := spl_len [32] 0 [] _ p hp
        rw [List.length_nil] at this
        omega
      generalize hsp : TL.spl [32] 0 [] (linesOf (TL.tl text))[i] = sp at hJ2 hspl hspw ⊢
      refine lc_it hJ2 (fun j H3 => H3 D2 = some (.lst (((sp.take j).filter fun w => decide (w ≠ [])).map wordV)) ∧ Same H2 H3) ⟨upd_same, same_new hD2'⟩ (fun j H3 _ ⟨_, s3⟩ => GSq.same s3) ?_ ?_
      · rintro j y H4 H3 hj ⟨hD3, s3⟩ ⟨rfl, hy⟩
        rw [List.length_map, List.length_map] at hj
        obtain rfl : V.str (mkS sp[j]) = y := by
          rw [List.getElem?_map, List.getElem?_map, List.getElem?_eq_getElem hj] at hy
          exact Option.some.inj hy
        have hwj := hspw _ (List.getElem_mem hj)
        refine ⟨rfl, ?_⟩
        refine ⟨_, rfl, mkS sp[j], rfl, Nat.le_of_lt (small1000 (by rw [TL.len_tl, tl_mkS]; omega)), ?_⟩
        rw [tl_mkS]
        have hlen : (((sp.take j).filter fun w => decide (w ≠ [])).map wordV).length < sizeLine := by
          rw [List.length_map]
          have h1 := List.length_filter_le (fun w => decide (w ≠ [])) (sp.take j)
          rw [List.length_take] at h1
          exact small1000 (by omega)
        by_cases hz : sp[j] = []
        · refine ite2 (fun c => absurd hz (by simpa using c)) (fun _ => ⟨?_, s3⟩)
          rw [take_more hj, List.filter_append, List.filter_cons_of_neg (by simp [hz]), List.filter_nil, List.append_nil]
          exact hD3
        · refine ite2 (fun _ => ?_) (fun c => absurd (by simpa using hz) c)
          refine ⟨_, rfl, _, hD3, hlen, ?_, s3.put hD2'⟩
          rw [upd_same, take_more hj, List.filter_append, List.filter_cons_of_pos (p := fun w => decide (w ≠ [])) (decide_eq_true hz), List.filter_nil, List.map_append]; rfl
      · rintro H3 ⟨hD3, s3⟩
        rw [List.length_map, List.length_map, List.take_length] at hD3
        have nD : D2 ≠ D := (ne_of_none hD2 hD2').symm
        refine ⟨_, s3 _ _ hD2, by rw [List.length_map]; exact small1000 (by omega), rs ++ [D2], by rw [upd_same, List.map_append]; rfl, ?_, fun r hr => ?_, (s2.trans s3).put hD⟩
        · rw [take_more hti]
          refine Forall2.snoc ⟨hf2.1, fun k x y e1 e2 => ?_⟩ ?_
          · show L2.upd _ D _ x = _
            rw [upd_ne (hne x (List.mem_of_getElem? e1))]
            exact s3 _ _ (hf2.2 k x y e1 e2)
          · rw [upd_ne nD, hD3]
            have e : (textL (TL.tl text))[i] = sp.filter fun w => decide (w ≠ []) := by
              show (List.map wordsOf (linesOf (TL.tl text)))[i]'(by rw [List.length_map]; exact hi) = _
              rw [List.getElem_map]
              unfold wordsOf
              rw [hsp]
            rw [e]
        · rcases List.mem_append.mp hr with h | h
          · exact hne r h
          · rw [List.mem_singleton.mp h]; exact nD
    · rintro H1 ⟨rs, hD1, hf, hne, s1⟩
      have eL : (textL (TL.tl text)).length = (linesOf (TL.tl text)).length := by unfold textL; rw [List.length_map]
      rw [List.length_map, List.length_map, ← eL, List.take_length] at hf
      have hww : ∀ W ∈ textL (TL.tl text), ∀ u ∈ W, u.length ≤ 600 := fun W hW u hu' => by
        obtain ⟨l, hl', rfl⟩ := List.mem_map.mp hW
        have h1 := spl_len [32] 0 [] l u (List.mem_filter.mp hu').1
        have h2 := hpl l hl'
        rw [List.length_nil] at h1
        omega
      have hne0 : textL (TL.tl text) ≠ [] := fun q => by
        unfold textL at q
        exact spl_ne [10] 0 [] (TL.tl text) (List.map_eq_nil_iff.mp q)
      have hLl : (textL (TL.tl text)).length ≤ 602 := by omega
      generalize textL (TL.tl text) = LS at k1 k2 k3 hf hww hne0 hLl
      have sH : Same H H1 := s0.trans s1
      clear hpl hnl eL hJ hD hp0
      obtain ⟨W, L, rfl⟩ : ∃ W L, LS = W :: L := by
        cases LS with
        | nil => exact absurd rfl hne0
        | cons a b => exact ⟨a, b, rfl⟩
      obtain ⟨h0, rs', rfl⟩ : ∃ a b, rs = a :: b := by
        cases rs with
        | nil => exact absurd hf.1 (by simp)
        | cons a b => exact ⟨a, b, rfl⟩
      have hh0 : H1 h0 = some (.lst (W.map wordV)) := hf.2 0 h0 W rfl rfl
      refine ⟨_, rfl, D, _, 0, .ref h0, rfl, rfl, SqL.of hD1, at_of' (show (0 : Int) = ((0 : Nat) : Int) from rfl) rfl, ?_⟩
      have rz : ∀ (i : Int) (σ : L2.St) (H2 : Hp), Same H H2 → EBT CT H E i → tMkO CT (spErr CT "line") [] (tCons (tC (.int i)) tNil) σ H2 (fun cls d H' => E cls d H') := fun i σ H2 s2 e => by
        refine ⟨by show 1 ≤ 1000; decide, fun a ha => ⟨a, _, rfl, upd_same, fun d hd hda => ⟨rfl, d, [("line", V.int i)], upd_same, ?_, ?_, ?_⟩⟩⟩
        · rw [upd_ne hda, upd_same]
        · rw [upd_ne hda] at hd; exact hd
        · rw [upd_ne hda] at hd
          exact e d _ ((raised_of ha hd hda).after s2)
      refine ⟨_, rfl, _, _, rfl, Or.inl ⟨_, SqL.of hh0, rfl⟩, rfl, _, rfl, ?_⟩
      by_cases hW : W.length = 2
      · refine ite2 (fun c => absurd c (by rw [List.length_map, hW]; simp)) (fun _ => ?_)
        obtain ⟨wt, wz, rfl⟩ : ∃ a b, W = [a, b] := by
          rcases W with _ | ⟨a, _ | ⟨b, _ | ⟨c, r⟩⟩⟩
          · cases hW
          · cases hW
          · exact ⟨a, b, rfl⟩
          · simp at hW
        have hzl := hww _ List.mem_cons_self wz (List.mem_cons_of_mem _ List.mem_cons_self)
        have ett : (mkS wt = title) ↔ wt = TL.tl title := ⟨fun q => by rw [← q, tl_mkS], fun q => by rw [q, mkS_tl]⟩
        rw [headZ_two] at k1 k2 k3
        refine ⟨_, rfl, h0, _, 0, .str (mkS wt), rfl, rfl, SqL.of hh0, at_of' (show (0 : Int) = ((0 : Nat) : Int) from rfl) rfl, _, rfl, rfl, _, rfl, ?_⟩
        by_cases ht : wt = TL.tl title
        · refine ite2 (fun c => absurd c (by rw [ett.mpr ht]; simp)) (fun _ => ?_)
          refine ⟨_, rfl, h0, _, 1, .str (mkS wz), rfl, rfl, SqL.of hh0, at_of' (show (1 : Int) = ((1 : Nat) : Int) from rfl) rfl, mkS wz, rfl, by rw [TL.len_tl, tl_mkS]; exact hzl, fun H2 s2 => ⟨_, rfl, ?_⟩⟩
          rw [tl_mkS]
          have sH2 := sH.trans s2
          cases hz : okZ wz with
          | false =>
            refine rz 1 _ _ sH2 (k2 ?_)
            rw [if_neg fun q => by rw [hz] at q; cases q.2]
          | true =>
            have hsome : (if wt = TL.tl title ∧ okZ wz = true then some wz else none) = some wz := if_pos ⟨ht, hz⟩
            have hD2 := s2 _ _ hD1
            refine ⟨_, rfl, _, _, rfl, Or.inl ⟨_, SqL.of hD2, rfl⟩, rfl, _, rfl, ?_⟩
            have hlen : (h0 :: rs').length = ([wt, wz] :: L).length := hf.1
            by_cases hL : ([wt, wz] :: L).length < 2
            · refine ite2 (fun _ => rz 2 _ _ sH2 (k3 wz hsome hL)) (fun c => absurd ?_ c)
              have : (h0 :: rs').length = 1 := by rw [hlen]; rw [List.length_cons] at hL ⊢; omega
              rw [List.length_map, this]
              simp
            · refine ite2 (fun c => absurd c ?_) (fun _ => ?_)
              · have : (h0 :: rs').length ≠ 1 := by rw [hlen]; omega
                rw [List.length_map]
                intro q
                have q := of_decide_eq_true q
                exact this (Int.ofNat.inj (V.int.inj q))
              · refine ⟨_, rfl, h0, _, 1, .str (mkS wz), rfl, rfl, SqL.of (s2 _ _ hh0), at_of' (show (1 : Int) = ((1 : Nat) : Int) from rfl) rfl, _, rfl, _, rfl, D, _, rfl, SqL.of hD2, fun r hr => ?_⟩
                rw [show (1 : Int) = ((1 : Nat) : Int) from rfl, cutV_fromN]
                refine ⟨by show 2 ≤ sizeLine; decide, fun tt htt => ?_⟩
                refine k1 wz hsome (by omega) tt r _ ((sH2.trans (same_new hr)).trans (same_new htt)) upd_same ⟨rs', same_new htt _ _ upd_same, ?_⟩
                refine ⟨Nat.succ.inj hlen, fun k x y e1 e2 => ?_⟩
                exact same_new htt _ _ (same_new hr _ _ (s2 _ _ (hf.2 (k + 1) x y e1 e2)))
        · refine ite2 (fun _ => ?_) (fun c => absurd (by simpa using fun q => ht (ett.mp q)) c)
          refine rz 1 _ _ sH (k2 ?_)
          rw [if_neg fun q => ht q.1]
      · refine ite2 (fun _ => ?_) (fun c => absurd (by rw [List.length_map]; simp; omega) c)
        exact rz 1 _ _ sH (k2 (headZ_none hW))
end
end Vf
set_option Elab.async false
set_option linter.all false
set_option maxRecDepth 100000
set_option maxHeartbeats 4000000
namespace Vf
open PySem L2 PyProof.Rows
theorem good_row {m : Nat} {gs : List (List Int)} {i : Nat} (h : GoodRows m gs) (hi : i < gs.length) : gs[i].length = m ∧ ∀ g ∈ gs[i], 0 ≤ g ∧ g < gs.length := by
  have := h.1 i hi
  exact ⟨Classical.byContradiction fun q => this (Or.inl q), fun g hg => Classical.byContradiction fun q => this (Or.inr ⟨g, hg, q⟩)⟩
theorem not_badRow {m : Nat} {gs : List (List Int)} {i : Nat} (h : GoodRows m gs) : ¬ BadRow m gs i := by
  rintro (⟨hi, hb, _⟩ | ⟨_, h0⟩)
  · exact h.1 i hi hb
  · have := h.2
    omega
/-- the shape that Shape(..) makes of data -/
def MadeAt (K : PySem.W.Frag) (C : Addr) (H : Hp) (o : Addr) (z : Str) (gs : List (List Int)) (es : List Int) : Prop := ∃ es', Up es' ∧ (∀ x, x ∈ es' ↔ x ∈ es) ∧ ShapeAt K C H o z gs es'
theorem ShapeAt.kp {K : PySem.W.Frag} {C o p : Addr} {H H' : Hp} {z : Str} {rs : List (List Int)} {es : List Int} {kvs : List (Key × V)} (c : ShapeAt K C H o z rs es) (k : Kp p H H') (hp : H p = some (.dK kvs)) : ShapeAt K C H' o z rs es := by
  obtain ⟨dx, R, E, h1, h2, h3⟩ := c
  exact ⟨dx, R, E, k _ _ h1 (L2.ne_of h1 hp (by intro z; cases z)), h2.mv (Kl.kp k hp), h3.mv (Kl.kp k hp)⟩
theorem MadeAt.kp {K : PySem.W.Frag} {C o p : Addr} {H H' : Hp} {z : Str} {rs : List (List Int)} {es : List Int} {kvs : List (Key × V)} (c : MadeAt K C H o z rs es) (k : Kp p H H') (hp : H p = some (.dK kvs)) : MadeAt K C H' o z rs es := by
  obtain ⟨es', h1, h2, h3⟩ := c
  exact ⟨es', h1, h2, h3.kp k hp⟩
theorem MadeAt.same {K : PySem.W.Frag} {C o : Addr} {H H' : Hp} {z : Str} {rs : List (List Int)} {es : List Int} (c : MadeAt K C H o z rs es) (s : Same H H') : MadeAt K C H' o z rs es := by
  obtain ⟨es', h1, h2, h3⟩ := c
  exact ⟨es', h1, h2, h3.same s⟩
/-- Shape(..) of right data -/
theorem mk_ok {K : PySem.W.Frag} {C CB : Addr} {H : Hp} {z : Str} {R : V} {g : Addr} {gs : List (List Int)} {es : List Int} {S : VK} {E : XK} {x dx : Addr} (hx : H x = none) (hdx : H dx = none) (ne : dx ≠ x) (hR : RwsI K H R gs) (hg : H g = some (.lst (es.map V.int))) (good : GoodRows z.length gs) (ge : ∀ e ∈ es, 0 ≤ e ∧ e < (gs.length : Nat)) (hz : z.length ≤ 26) (hl : gs.length ≤ 100) (hel : es.length < 64)
    (k : ∀ H', Same H H' → MadeAt K C H' x z gs es → S .non H') : spInitS K C CB (.ref x :: ([.str z, R, .ref g] ++ [])) (L2.upd (L2.upd H dx (.own x)) x (.ins C dx [])) S E := by
  have hx' : (L2.upd H dx (.own x)) x = none := by rw [upd_ne ne.symm]; exact hx
  have s0 : Same H (L2.upd (L2.upd H dx (.own x)) x (.ins C dx [])) := (same_new hdx).trans (same_new hx')
  refine ⟨x, dx, z, R, g, gs, es, rfl, upd_same, hR.mv (Kl.same s0), SqL.of (s0 _ _ hg), hz, hl, hel, fun r hr => ?_, fun _ _ H' es' hu hm hSh hk => k H' (fun b u e => hk b u (s0 _ _ e) (ne_of_none e hx)) ⟨es', hu, hm, hSh⟩, fun i hb => absurd hb (not_badRow good), fun _ i hi hb => absurd (ge _ (List.getElem_mem hi)) hb⟩
  obtain ⟨i, hi, rfl⟩ := List.getElem_of_mem hr
  have := (good_row good hi).1
  omega
theorem dpAll_gs {K : PySem.W.Frag} {H : Hp} : ∀ {rs : List Addr} {gs : List (List Int)}, rs.length = gs.length → (∀ (i : Nat) (r : Addr) (row : List Int), rs[i]? = some r → gs[i]? = some row → H r = some (.lst (row.map V.int))) → DpAll K H (rs.map V.ref) (gs.map intsD)
  | [], [], _, _ => .nil
  | r :: rs, row :: gs, hl, h => by
    have h0 := h 0 r row rfl rfl
    have ih := dpAll_gs (K := K) (H := H) (rs := rs) (gs := gs) (by simpa using hl) fun i r' row' h1 h2 => h (i + 1) r' row' h1 h2
    exact DpAll.cons (Dp.lst (SqL.of h0) (dpAll_ints K H _)) ih
/-- a line's words without the mark, and whether it is marked -/
def goodW : List Nat := TL.tl "good"
def marked (ws : List (List Nat)) : Bool := decide (ws.getLast? = some goodW)
def bare (ws : List (List Nat)) : List (List Nat) := if marked ws = true then ws.dropLast else ws
def rowW (m n : Nat) (ws : List (List Nat)) : Option (List Nat) := goalsW m n (bare ws)
def rowI (m n : Nat) (ws : List (List Nat)) : List Int := ((rowW m n ws).getD []).map Int.ofNat
def goods (L : List (List (List Nat))) : List Int := ((List.range L.length).filter fun i => marked (L.getD i [])).map Int.ofNat
theorem goods_snoc (A : List (List (List Nat))) (x : List (List Nat)) : goods (A ++ [x]) = goods A ++ (if marked x = true then [(A.length : Int)] else []) := by
  unfold goods
  have e1 : (List.range A.length).filter (fun i => marked ((A ++ [x]).getD i [])) = (List.range A.length).filter fun i => marked (A.getD i []) := by
    refine List.filter_congr fun i hi => ?_
    have hi := List.mem_range.mp hi
    rw [List.getD_eq_getElem?_getD, List.getD_eq_getElem?_getD, List.getElem?_append_left hi]
  have e2 : (A ++ [x]).getD A.length [] = x := by
    rw [List.getD_eq_getElem?_getD, List.getElem?_append_right (Nat.le_refl _), Nat.sub_self]; rfl
  rw [List.length_append, List.length_singleton, List.range_succ, List.filter_append, e1, List.map_append]
  congr 1
  by_cases h : marked x = true
  · rw [List.filter_cons_of_pos (by rw [e2]; exact h), if_pos h]; rfl
  · rw [List.filter_cons_of_neg (by rw [e2]; exact h), if_neg h]; rfl
theorem textL_small {t : List Nat} (h : t.length ≤ 600) : ∀ W ∈ textL t, W.length ≤ 700 ∧ ∀ u ∈ W, u.length ≤ 600 := fun W hW => by
  obtain ⟨l, hl, rfl⟩ := List.mem_map.mp hW
  have h1 := spl_len [10] 0 [] t l hl
  rw [List.length_nil] at h1
  refine ⟨?_, fun u hu => ?_⟩
  · have h2 := PyProof.Rows.split_le (mkS l) " "
    rw [split_sp, List.length_map, tl_mkS] at h2
    have h3 := List.length_filter_le (fun w => decide (w ≠ [])) (TL.spl [32] 0 [] l)
    have h4 : (mkS l).length = l.length := by rw [TL.len_tl, tl_mkS]
    show ((TL.spl [32] 0 [] l).filter fun w => decide (w ≠ [])).length ≤ 700
    omega
  · have h2 := spl_len [32] 0 [] l u (List.mem_filter.mp hu).1
    rw [List.length_nil] at h2
    omega
inductive ROut where
  | bad (i : Nat)
  | shape (z : List Nat) (gs : List (List Int)) (es : List Int)
def readS (t : List Nat) : ROut := match headZ (TL.tl "shape") (textL t) with
  | none => .bad 1
  | some z => if (textL t).length < 2 then .bad 2 else match (textL t).tail.findIdx? fun ws => (rowW z.length (textL t).tail.length ws).isNone with
    | some j => .bad (j + 2)
    | none => .shape z ((textL t).tail.map (rowI z.length (textL t).tail.length)) (goods (textL t).tail)
theorem rowW_good {m n : Nat} {ws : List (List Nat)} {r : List Nat} (h : rowW m n ws = some r) : r.length = m ∧ ∀ g ∈ r, g < n := by
  unfold rowW goalsW at h
  split at h
  · rename_i hc
    cases h
    refine ⟨by rw [List.length_map]; exact hc.1, fun g hg => ?_⟩
    obtain ⟨w, hw, rfl⟩ := List.mem_map.mp hg
    have := List.all_eq_true.mp hc.2 w hw
    unfold okN at this
    unfold valN
    cases e : numW w with
    | none => rw [e] at this; cases this
    | some k => rw [e] at this; simpa using this
  · cases h
theorem mark_rest {c : Bool} {T : TE} {σ : L2.St} {H : Hp} {Kc : VK} {b : Bool} (main : Kc (.bl b) H) (h : c = true → ∀ Q : VK, Q (.bl b) H → T σ H Q) (h0 : c = false → b = false) : if c = true then T σ H Kc else Kc (.bl false) H := by
  cases hc : c with
  | true => rw [if_pos rfl]; exact h hc Kc main
  | false => rw [if_neg (by decide), ← h0 hc]; exact main
theorem bare_rest {c : Bool} {T1 T2 : TE} {σ : L2.St} {H : Hp} {Kc : VK} (P : Addr → Hp → Prop) (main : ∀ a H', P a H' → Kc (.ref a) H') (h1 : c = true → ∀ Q : VK, (∀ a H', P a H' → Q (.ref a) H') → T1 σ H Q) (h2 : c = false → ∀ Q : VK, (∀ a H', P a H' → Q (.ref a) H') → T2 σ H Q) : if c = true then T1 σ H Kc else T2 σ H Kc := by
  cases hc : c with
  | true => rw [if_pos rfl]; exact h1 hc Kc main
  | false => rw [if_neg (by decide)]; exact h2 hc Kc main
theorem marked_last {A : List (List Nat)} {x : List Nat} : marked (A ++ [x]) = decide (V.str (mkS x) = V.str "good") := by
  unfold marked goodW
  rw [List.getLast?_concat, Bool.eq_iff_iff, decide_eq_true_eq, decide_eq_true_eq]
  constructor
  · intro h
    rw [Option.some.inj h, mkS_tl]
  · intro h
    rw [← V.str.inj h, tl_mkS]
theorem cut_last {xs : List V} {x : V} : cutV (xs ++ [x]) none (some (-1)) = xs := by
  unfold cutV
  rw [HT.sIx_none]
  have e : HT.sIx (xs ++ [x]).length (xs ++ [x]).length (some (-1)) = xs.length := by
    unfold HT.sIx
    simp
    omega
  rw [e, List.drop_zero, Nat.sub_zero, List.take_left]
structure TxtRd (K : PySem.W.Frag) (mg : Str → Option Value) (B CT fT fRL fRG : Addr) : Prop where
  base : BaseT K mg "CodeError" B
  bt : ErrT K mg "BadText" "line" CT fT
  len : mg "len" = none
  enumerate : mg "enumerate" = none
  mread_lines : mg "read_lines" = some (.ref fRL)
  kread_lines : PySem.W.keepIn K (.ref fRL) = true
  mread_goals : mg "read_goals" = some (.ref fRG)
  kread_goals : PySem.W.keepIn K (.ref fRG) = true
section
variable {P : Program} {w : World} {K : PySem.W.Frag} {mg : Str → Option Value} {base : Heap}
def spRead (K : PySem.W.Frag) (C CT : Addr) : Sp := fun vs H Q E => ∃ text : Str, vs = [.ref C, .str text] ∧ text.length ≤ 600 ∧ (textL (TL.tl text)).length ≤ 60 ∧
  (∀ i, readS (TL.tl text) = .bad i → EBT CT H E (i : Int)) ∧ (∀ z gs es, readS (TL.tl text) = .shape z gs es → ∀ o H', Same H H' → MadeAt K C H' o (mkS z) gs es → Q (.ref o) H')
abbrev s_Shape_read : Stmt := inClass (top 12) 4
abbrev N_Shape_read : List Str := ["cls", "text", "letters", "lines", "rows", "good", "line", "words", "marked", "goals"]
abbrev P_Shape_read : List Str := ["cls", "text"]
theorem sc_Shape_read : FnScope N_Shape_read P_Shape_read (defScope s_Shape_read) := ⟨rfl, rfl, rfl, by decide +kernel, rfl, by decide +kernel, by decide +kernel⟩

theorem ok_read {f fI C CB B CT fT fRL fRG : Addr} {fd fdI fdT fdRL fdRG : FuncData} (F : Fun K "read" "Shape.read" s_Shape_read f fd) (T : TxtRd K mg B CT fT fRL fRG) (FT : Fun K "__init__" "BadText.__init__" s_BadText___init__ fT fdT) (bT' : Binds K fdT P_BadText___init__ [])
    (Gread_lines : FnOk P w K mg base (L2.CX P w) 4 fRL fdRL P_read_lines (spReadL K CT)) (bread_lines : Binds K fdRL P_read_lines []) (Gread_goals : FnOk P w K mg base CX0 2 fRG fdRG P_read_goals (spReadG K)) (bread_goals : Binds K fdRG P_read_goals [])
    (MShape : Mk K C fI) (GShape : FnOk P w K mg base (L2.CX P w) 4 fI fdI P_Shape___init__ (spInitS K C CB)) (bShape : Binds K fdI P_Shape___init__ []) : FnOk P w K mg base (L2.CX P w) 6 f fd P_Shape_read (spRead K C CT) := by
  have GT' : FnOk P w K mg base CX0 1 fT fdT P_BadText___init__ (spErr CT "line") := ok_bt FT T.base T.bt
  refine F.okX sc_Shape_read (fun vs H Q E h => ?_) (fun cdv A outer s H vs Q E hr h => ?_)
  · obtain ⟨text, rfl, _⟩ := h
    rfl
  · obtain ⟨text, rfl, hl, hl60, kb, ks⟩ := h
    have hu := hu_of hr
    have passL : Passes (L2.CX P w) (cxOf (L2.CX P w) P w K mg base N_Shape_read "Shape.read" (defScope s_Shape_read) f cdv A outer s H E) E := passes_call (takes_of rfl rfl rfl rfl) (fun _ _ _ _ h => h)
    refine ⟨_, (pss_cons (ps_asg (pe_call Gread_lines (hr.mono (by decide)) (by rfl) T.mread_lines T.kread_lines bread_lines .nil passL (pa_cons pe_str (pa_cons (pv 1) pa_nil))) (pg_tup (by rfl) (pgs_cons (pg_name (i := 2) sc_Shape_read.nd rfl (Or.inl rfl)) (pgs_cons (pg_name (i := 3) sc_Shape_read.nd rfl (Or.inl rfl)) pgs_nil))))
      (pss_cons (ps_set (i := 4) sc_Shape_read.nd rfl (Or.inl rfl) (pe_lst pa_nil))
      (pss_cons (ps_set (i := 5) sc_Shape_read.nd rfl (Or.inl rfl) (pe_lst pa_nil))
      (pss_cons (ps_for (passes_of rfl) rfl (pi_enumN (n := 2) (by decide) (by rfl) T.enumerate (pa_cons (pv 3) pa_nil) (pk_cons pe_int pk_nil)) (pg_tup (by rfl) (pgs_cons (pg_name (i := 6) sc_Shape_read.nd rfl (Or.inl rfl)) (pgs_cons (pg_name (i := 7) sc_Shape_read.nd rfl (Or.inl rfl)) pgs_nil))) (pss_cons (ps_set (i := 8) sc_Shape_read.nd rfl (Or.inl rfl) (L2.pe_and (pe_cmpR op_gt (pe_callB call_len (by rfl) T.len PySem.boot_len (pa_cons (pv 7) pa_nil)) pe_int (nomark _)) (pe_one (pe_cmpR op_eq (pe_ix ix_list (pv 7) (pe_un un_neg pe_int) (fun _ _ => rfl)) pe_str (nomark _)))))
      (pss_cons (ps_set (i := 9) sc_Shape_read.nd rfl (Or.inl rfl) (pe_call Gread_goals (hr.mono (by decide)) (by rfl) T.mread_goals T.kread_goals bread_goals .nil pass0 (pa_cons (pe_ifExp (pt_val (pv 8)) (pe_slice sl_list (pv 7) po_none (po_some (pe_un un_neg pe_int))) (pv 7)) (pa_cons (pe_callB call_len (by rfl) T.len PySem.boot_len (pa_cons (pv 2) pa_nil)) (pa_cons (pe_callB call_len (by rfl) T.len PySem.boot_len (pa_cons (pv 3) pa_nil)) pa_nil)))))
      (pss_cons (ps_if (pt_cmpR op_isN (pv 9) pe_non (nomark _)) (pss_one (ps_raise rfl (takes_of rfl rfl rfl rfl) (pmk_oex T.bt.oex T.bt.iC T.bt.tI GT' (hr.mono (by decide)) bT' .nil pass0 (by rfl) T.bt.g (pa_cons (pv 6) pa_nil)))) pss_nil)
      (pss_cons (ps_if (pt_val (pv 8)) (pss_one (ps_expr (pe_bm PySem.F.plainAttrs_list PySem.F.slot_list_append PySem.F.type_list_append mt_append (pv 5) (pa_cons (pe_callB call_len (by rfl) T.len PySem.boot_len (pa_cons (pv 4) pa_nil)) pa_nil)))) pss_nil)
      (pss_one (ps_expr (pe_bm PySem.F.plainAttrs_list PySem.F.slot_list_append PySem.F.type_list_append mt_append (pv 4) (pa_cons (pv 9) pa_nil)))))))))
      (pss_one (ps_ret (pe_makeC (i := 0) MShape GShape (hr.mono (by decide)) rfl (Or.inl rfl) bShape .nil passL (pa_cons (pv 2) (pa_cons (pv 4) (pa_cons (pv 5) pa_nil)))))))))), ?_⟩
    have hsm := textL_small (t := TL.tl text) (by rw [← TL.len_tl]; exact hl)
    refine ⟨_, rfl, "shape", text, rfl, hl, fun z hz h2 tt r H1 s1 htt hW => ?_, fun h => kb 1 (by unfold readS; rw [h]), fun z hz h2 => kb 2 (by unfold readS; rw [hz]; exact if_pos h2)⟩
    have hrd : readS (TL.tl text) = match (textL (TL.tl text)).tail.findIdx? fun ws => (rowW z.length (textL (TL.tl text)).tail.length ws).isNone with
        | some j => .bad (j + 2)
        | none => .shape z ((textL (TL.tl text)).tail.map (rowI z.length (textL (TL.tl text)).tail.length)) (goods (textL (TL.tl text)).tail) := by
      unfold readS
      rw [hz]
      exact if_neg (by omega)
    have hsm' : ∀ W ∈ (textL (TL.tl text)).tail, W.length ≤ 700 ∧ ∀ u ∈ W, u.length ≤ 600 := fun W hW => hsm W (List.mem_of_mem_tail hW)
    have hLl : (textL (TL.tl text)).tail.length ≤ 60 ∧ 0 < (textL (TL.tl text)).tail.length := by rw [List.length_tail]; omega
    have hzk : okZ z = true := by
      unfold headZ at hz
      split at hz
      · split at hz
        · rename_i hc
          cases hz
          exact hc.2
        · cases hz
      · cases hz
    generalize (textL (TL.tl text)).tail = L at hrd hsm' hLl hW
    clear hsm
    have hzl : z.length ≤ 3 := by
      unfold okZ at hzk
      rw [Bool.and_eq_true, Bool.and_eq_true, decide_eq_true_eq, decide_eq_true_eq] at hzk
      exact hzk.1.2
    have hml : (mkS z).length = z.length := by rw [TL.len_tl, tl_mkS]
    obtain ⟨rs, hr, hf⟩ := hW
    have hrl : rs.length = L.length := hf.1
    refine ⟨tt, _, rfl, SqT.of htt, rfl, _, _, rfl, _, _, rfl, rfl, by show 0 ≤ sizeLine; decide, fun D hD => ⟨by show 0 ≤ sizeLine; decide, fun G hG => ?_⟩⟩
    have s2 : Same H1 (L2.upd (L2.upd H1 D (.lst [])) G (.lst [])) := (same_new hD).trans (same_new hG)
    have hD2 : (L2.upd (L2.upd H1 D (.lst [])) G (.lst [])) D = some (.lst []) := same_new hG _ _ upd_same
    have hG2 : (L2.upd (L2.upd H1 D (.lst [])) G (.lst [])) G = some (.lst []) := upd_same
    have nGD : G ≠ D := (ne_of_none (upd_same (H := H1) (a := D) (o := .lst [])) hG).symm
    have hG1 : H1 G = none := by rw [upd_ne nGD] at hG; exact hG
    change tSeq _ _ _ _ (L2.upd (L2.upd H1 D (.lst [])) G (.lst []))
    generalize L2.upd (L2.upd H1 D (.lst [])) G (.lst []) = H2 at s2 hD2 hG2 ⊢
    refine ⟨_, rfl, r, rs.map V.ref, rfl, rfl, SqL.of (s2 _ _ hr), for_it walk_enumN (fun i σ H3 => ∃ (v6 v7 v8 v9 : Option V) (qs : List Addr), σ = [some (.ref C), some (.str text), some (.str (mkS z)), some (.ref r), some (.ref D), some (.ref G), v6, v7, v8, v9] ∧
      H3 D = some (.lst (qs.map V.ref)) ∧ Forall2 (fun (a : Addr) (row : List Int) => H3 a = some (.lst (row.map V.int))) qs ((L.take i).map (rowI z.length L.length)) ∧ (∀ q ∈ qs, q ≠ D ∧ q ≠ G) ∧ H3 G = some (.lst ((goods (L.take i)).map V.int)) ∧ (∀ ws ∈ L.take i, (rowW z.length L.length ws).isNone = false) ∧ Same H1 H3)
      ⟨none, none, none, none, [], rfl, hD2, ⟨rfl, fun i x y e1 e2 => nomatch e1⟩, (fun q hq => nomatch hq), hG2, (fun w hw => nomatch hw), s2⟩ (fun i σ H3 _ ⟨_, _, _, _, _, _, _, _, _, _, _, s3⟩ => SqL.of (s3 _ _ hr)) ?_ ?_⟩
    · rintro i x σ H3 H4 hi ⟨v6, v7, v8, v9, qs0, rfl, hD3, hf3, hne, hG3, hall, s3⟩ ⟨q, b, rfl, hq, rfl, hb⟩
      rw [List.length_map] at hi
      have hiL : i < L.length := by omega
      obtain rfl : V.ref rs[i] = b := by
        rw [List.getElem?_map, List.getElem?_eq_getElem hi] at hb
        exact Option.some.inj hb
      have hws := hf.2 i _ _ (List.getElem?_eq_getElem hi) (List.getElem?_eq_getElem hiL)
      obtain ⟨hwn, hwu⟩ := hsm' _ (List.getElem_mem hiL)
      have s5 := s3.trans (same_new (o := .tup [.int ((2 + i : Nat) : Int), .ref rs[i]]) hq)
      have s35 := same_new (o := .tup [.int ((2 + i : Nat) : Int), .ref rs[i]]) hq
      refine ⟨q, _, rfl, SqT.of upd_same, rfl, _, _, rfl, _, _, rfl, rfl, ?_⟩
      generalize L2.upd H3 q (.tup [.int ((2 + i : Nat) : Int), .ref rs[i]]) = H5 at s5 s35
      have hws5 := s5 _ _ hws
      refine ⟨_, rfl, _, _, rfl, Or.inl ⟨_, SqL.of hws5, rfl⟩, _, _, rfl, rfl, _, rfl, ?_⟩
      have hcase : L[i] = [] ∨ ∃ A u, L[i] = A ++ [u] := by
        cases e : L[i] with
        | nil => exact Or.inl rfl
        | cons p l => exact Or.inr ⟨(p :: l).dropLast, (p :: l).getLast (List.cons_ne_nil _ _), (List.dropLast_concat_getLast _).symm⟩
      refine mark_rest (b := marked L[i]) ?_ (fun hc Q q => ?_) (fun hc => ?_)
      · refine ⟨_, rfl, _, rfl, ?_⟩
        have rz : ∀ (k : Nat) (σ : L2.St) (H6 : Hp), σ[6]? = some (some (.int ((2 + i : Nat) : Int))) → Same H1 H6 → EBT CT H E ((2 + i : Nat) : Int) → tMkO CT (spErr CT "line") [] (tCons (tVar 6) tNil) σ H6 (fun cls d H' => E cls d H') := fun k σ H6 hσ s6 e => by
          refine ⟨_, hσ, by show 1 ≤ 1000; decide, fun a ha => ⟨a, _, rfl, upd_same, fun d hd hda => ⟨rfl, d, [("line", V.int ((2 + i : Nat) : Int))], upd_same, ?_, ?_, ?_⟩⟩⟩
          · rw [upd_ne hda, upd_same]
          · rw [upd_ne hda] at hd; exact hd
          · rw [upd_ne hda] at hd
            exact e d _ ((raised_of ha hd hda).after (s1.trans s6))
        refine bare_rest (fun a H6 => H6 a = some (.lst ((bare L[i]).map wordV)) ∧ Same H5 H6) (fun a H6 hP => ?_) (fun hc Q q => ?_) (fun hc Q q => ?_)
        · obtain ⟨ha6, s56⟩ := hP
          have hr6 := s56 _ _ (s5 _ _ hr)
          have hbn : (bare L[i]).length ≤ 700 := by
            unfold bare
            split
            · rw [List.length_dropLast]; omega
            · exact hwn
          have hbu : ∀ u ∈ bare L[i], u.length ≤ 600 := fun u hu' => by
            unfold bare at hu'
            split at hu'
            · exact hwu u (List.dropLast_subset _ hu')
            · exact hwu u hu'
          refine ⟨_, rfl, _, _, rfl, ⟨Nat.le_of_lt (small1000 (by omega)), rfl⟩, _, rfl, _, _, rfl, Or.inl ⟨_, SqL.of hr6, rfl⟩, a, bare L[i], z.length, L.length, by rw [hml, List.length_map, hrl]; rfl, SqL.of ha6, hbn, hbu, fun hno H7 s7 => ?_, fun gl hgl g H7 s7 hgn hg7 => ?_⟩
          · refine ⟨_, rfl, rfl, _, rfl, ite2 (fun _ => ?_) (fun c => absurd (by simp) c)⟩
            refine rz 0 _ _ rfl (s5.trans (s56.trans s7)) ?_
            have hfi : (L.findIdx? fun ws => (rowW z.length L.length ws).isNone) = some i := by
              refine List.findIdx?_eq_some_iff_getElem.mpr ⟨hiL, ?_, fun j hj => ?_⟩
              · show (rowW z.length L.length L[i]).isNone = true
                unfold rowW
                rw [hno]; rfl
              · have := hall L[j] (List.mem_take_iff_getElem.mpr ⟨j, by omega, rfl⟩)
                simp [this]
            rw [hfi] at hrd
            have := kb (i + 2) hrd
            rw [Nat.add_comm] at this
            exact this
          · refine ⟨_, rfl, rfl, _, rfl, ite2 (fun c => absurd c (by simp)) (fun _ => ?_)⟩
            have s67 := s56.trans s7
            have hD5 := s35 _ _ hD3
            have hG5 := s35 _ _ hG3
            have hD7 := s67 _ _ hD5
            have hG7 := s67 _ _ hG5
            have ngD : g ≠ D := (ne_of_none (s56 _ _ hD5) hgn).symm
            have ngG : g ≠ G := (ne_of_none (s56 _ _ hG5) hgn).symm
            have hrw : rowW z.length L.length L[i] = some gl := hgl
            have hri : rowI z.length L.length L[i] = gl.map Int.ofNat := by unfold rowI; rw [hrw]; rfl
            have hql : qs0.length = i := by rw [hf3.1, List.length_map, List.length_take]; omega
            have htl : (L.take i).length = i := by rw [List.length_take]; omega
            have hgol : (goods (L.take i)).length ≤ 60 := by
              unfold goods
              rw [List.length_map]
              have h1 := List.length_filter_le (fun j => marked ((L.take i).getD j [])) (List.range (L.take i).length)
              rw [List.length_range] at h1
              omega
            have s17 := s5.trans s67
            have fin : ∀ (H8 : Hp), H8 D = some (.lst (qs0.map V.ref)) → (∀ b u, H7 b = some u → b ≠ G → H8 b = some u) → H8 G = some (.lst ((goods (L.take (i + 1))).map V.int)) → Same H1 H8 → ∀ σ' : L2.St, (∃ (v6 v7 v8 v9 : Option V), σ' = [some (.ref C), some (.str text), some (.str (mkS z)), some (.ref r), some (.ref D), some (.ref G), v6, v7, v8, v9]) →
                ∃ (v6 v7 v8 v9 : Option V) (qs : List Addr), σ' = [some (.ref C), some (.str text), some (.str (mkS z)), some (.ref r), some (.ref D), some (.ref G), v6, v7, v8, v9] ∧
                  (L2.upd H8 D (.lst (qs0.map V.ref ++ [.ref g]))) D = some (.lst (qs.map V.ref)) ∧ Forall2 (fun (a : Addr) (row : List Int) => (L2.upd H8 D (.lst (qs0.map V.ref ++ [.ref g]))) a = some (.lst (row.map V.int))) qs ((L.take (i + 1)).map (rowI z.length L.length)) ∧ (∀ q ∈ qs, q ≠ D ∧ q ≠ G) ∧ (L2.upd H8 D (.lst (qs0.map V.ref ++ [.ref g]))) G = some (.lst ((goods (L.take (i + 1))).map V.int)) ∧ (∀ ws ∈ L.take (i + 1), (rowW z.length L.length ws).isNone = false) ∧ Same H1 (L2.upd H8 D (.lst (qs0.map V.ref ++ [.ref g]))) := fun H8 hD8 hk hG8 s8 σ' hσ => by
              obtain ⟨a6, a7, a8, a9, rfl⟩ := hσ
              refine ⟨a6, a7, a8, a9, qs0 ++ [g], rfl, by rw [upd_same, List.map_append]; rfl, ?_, fun q hq => ?_, by rw [upd_ne nGD]; exact hG8, fun ws hws => ?_, s8.put hD⟩
              · rw [take_more hiL, List.map_append]
                refine Forall2.snoc ⟨hf3.1, fun k x y e1 e2 => ?_⟩ ?_
                · obtain ⟨n1, n2⟩ := hne x (List.mem_of_getElem? e1)
                  show L2.upd _ D _ x = _
                  rw [upd_ne n1]
                  exact hk _ _ (s67 _ _ (s35 _ _ (hf3.2 k x y e1 e2))) n2
                · rw [upd_ne ngD, hri]
                  exact hk _ _ hg7 ngG
              · rcases List.mem_append.mp hq with h | h
                · exact hne q h
                · rw [List.mem_singleton.mp h]; exact ⟨ngD, ngG⟩
              · rw [take_more hiL] at hws
                rcases List.mem_append.mp hws with h | h
                · exact hall ws h
                · rw [List.mem_singleton.mp h, hrw]; rfl
            have hgo := goods_snoc (L.take i) L[i]
            rw [← take_more hiL, htl] at hgo
            refine ⟨_, rfl, _, rfl, ?_⟩
            cases hmk : marked L[i] with
            | true =>
              rw [hmk, if_pos rfl] at hgo
              refine ⟨_, rfl, Or.inl ⟨rfl, _, SqL.of hG7⟩, _, rfl, _, _, rfl, Or.inl ⟨_, SqL.of hD7, rfl⟩, G, _, _, rfl, rfl, hG7, small1000 (by rw [List.length_map]; omega), ?_⟩
              have hD8 : (L2.upd H7 G (.lst ((goods (L.take i)).map V.int ++ [.int ((qs0.map V.ref).length : Nat)]))) D = some (.lst (qs0.map V.ref)) := by rw [upd_ne nGD.symm]; exact hD7
              refine ⟨_, rfl, Or.inl ⟨rfl, _, SqL.of hD8⟩, _, rfl, D, _, _, rfl, rfl, hD8, small1000 (by rw [List.length_map]; omega), ?_⟩
              exact fin _ hD8 (fun b u e n => by rw [upd_ne n]; exact e) (by rw [upd_same, hgo, List.map_append, List.length_map, hql]; rfl) (s17.put hG1) _ ⟨_, _, _, _, rfl⟩
            | false =>
              rw [hmk, if_neg (by decide), List.append_nil] at hgo
              refine ⟨_, rfl, Or.inl ⟨rfl, _, SqL.of hD7⟩, _, rfl, D, _, _, rfl, rfl, hD7, small1000 (by rw [List.length_map]; omega), ?_⟩
              exact fin _ hD7 (fun b u e _ => e) (by rw [hgo]; exact hG7) s17 _ ⟨_, _, _, _, rfl⟩
        · refine ⟨_, rfl, _, rfl, _, rfl, rs[i], _, rfl, SqL.of hws5, fun a ha => ?_⟩
          rcases hcase with e | ⟨A, u, e⟩
          · rw [e] at hc; cases hc
          · have e2 : cutV (L[i].map wordV) none (some (-1)) = (bare L[i]).map wordV := by
              unfold bare
              rw [if_pos hc, e, List.map_append, List.dropLast_concat]
              exact cut_last
            rw [e2]
            exact q a _ ⟨upd_same, same_new ha⟩
        · have e2 : bare L[i] = L[i] := by unfold bare; rw [if_neg (by rw [hc]; decide)]
          exact ⟨_, rfl, q _ _ ⟨by rw [e2]; exact hws5, Same.refl _⟩⟩
      · rcases hcase with e | ⟨A, u, e⟩
        · rw [e] at hc; simp at hc
        · rw [e, marked_last] at q
          refine ⟨_, rfl, _, rfl, rs[i], _, -1, wordV u, rfl, rfl, SqL.of hws5, ?_, rfl, q⟩
          rw [e, List.map_append]
          exact atI_last _ _
      · rcases hcase with e | ⟨A, u, e⟩
        · rw [e]; rfl
        · rw [e] at hc; simp at hc
    · rintro σ H3 ⟨v6, v7, v8, v9, qs, rfl, hD3, hf3, hne, hG3, hall, s3⟩
      rw [List.length_map, hrl, List.take_length] at hf3 hG3 hall
      have hfi : (L.findIdx? fun ws => (rowW z.length L.length ws).isNone) = none := List.findIdx?_eq_none_iff.mpr fun ws hws => hall ws hws
      rw [hfi] at hrd
      have hRw : Dp K H3 (.ref D) (rowsID (L.map (rowI z.length L.length))) := Dp.lst (SqL.of hD3) (dpAll_gs hf3.1 fun i r row h1 h2 => hf3.2 i r row h1 h2)
      have hgl : (L.map (rowI z.length L.length)).length = L.length := List.length_map ..
      have hgood : GoodRows (mkS z).length (L.map (rowI z.length L.length)) := by
        refine ⟨fun j hj => ?_, by rw [hgl]; exact hLl.2⟩
        rw [hgl, List.getElem_map]
        have hjL : j < L.length := by rw [hgl] at hj; exact hj
        have := hall L[j] (List.getElem_mem hjL)
        cases e : rowW z.length L.length L[j] with
        | none => rw [e] at this; cases this
        | some rw' =>
          obtain ⟨h1, h2⟩ := rowW_good e
          have er : rowI z.length L.length L[j] = rw'.map Int.ofNat := by unfold rowI; rw [e]; rfl
          rw [er, hml]
          rintro (q | ⟨g, hg, q⟩)
          · exact q (by rw [List.length_map]; exact h1)
          · obtain ⟨k, hk, rfl⟩ := List.mem_map.mp hg
            have := h2 k hk
            exact q ⟨Int.natCast_nonneg k, by show (k : Int) < (L.length : Int); omega⟩
      have hgoods : ∀ e ∈ goods L, 0 ≤ e ∧ e < ((L.map (rowI z.length L.length)).length : Nat) := fun e he => by
        unfold goods at he
        obtain ⟨k, hk, rfl⟩ := List.mem_map.mp he
        have := List.mem_range.mp (List.mem_filter.mp hk).1
        rw [hgl]
        exact ⟨Int.natCast_nonneg k, by show (k : Int) < (L.length : Int); omega⟩
      have hgol : (goods L).length ≤ 60 := by
        unfold goods
        rw [List.length_map]
        have h1 := List.length_filter_le (fun j => marked (L.getD j [])) (List.range L.length)
        rw [List.length_range] at h1
        omega
      refine ⟨rfl, _, rfl, _, rfl, _, rfl, fun x dx hx hdx ne => mk_ok hx hdx ne (Or.inl hRw) hG3 hgood hgoods (by omega) (by omega) (by omega) (fun H4 s4 hM => ⟨rfl, ks z _ _ hrd x _ ((s1.trans s3).trans s4) hM⟩)⟩
end
end Vf
set_option Elab.async false
set_option linter.all false
set_option maxRecDepth 100000
set_option maxHeartbeats 4000000
namespace Vf
open PySem L2 PyProof.Rows
theorem spl1 (acc r : List Nat) (c : Nat) : TL.spl [32] 0 acc (c :: r) = if c = 32 then acc :: TL.spl [32] 0 [] r else TL.spl [32] 0 (acc ++ [c]) r := by
  by_cases h : c = 32
  · rw [if_pos h, TL.spl_hit (by rw [h]; exact TL.pre_self [32] r)]
    rfl
  · rw [if_neg h, TL.spl_miss]
    rw [← Bool.not_eq_true]
    intro q
    unfold TL.pre at q
    simp at q
    omega
theorem spl_snoc : ∀ (y acc : List Nat) (c : Nat), TL.spl [32] 0 acc (y ++ [c]) = if c = 32 then TL.spl [32] 0 acc y ++ [[]] else (TL.spl [32] 0 acc y).dropLast ++ [(TL.spl [32] 0 acc y).getLast (spl_ne [32] 0 acc y) ++ [c]]
  | [], acc, c => by
    rw [List.nil_append, spl1]
    simp only [TL.spl_nil]
    by_cases h : c = 32
    · rw [if_pos h, if_pos h]; rfl
    · rw [if_neg h, if_neg h]; rfl
  | d :: y, acc, c => by
    rw [List.cons_append, spl1]
    by_cases hd : d = 32
    · have e : TL.spl [32] 0 acc (d :: y) = acc :: TL.spl [32] 0 [] y := by rw [spl1, if_pos hd]
      have hne := spl_ne [32] 0 [] y
      rw [if_pos hd, spl_snoc y [] c]
      simp only [e, List.dropLast_cons_of_ne_nil hne, List.getLast_cons hne]
      by_cases h : c = 32
      · rw [if_pos h, if_pos h]; rfl
      · rw [if_neg h, if_neg h]; rfl
    · have e : TL.spl [32] 0 acc (d :: y) = TL.spl [32] 0 (acc ++ [d]) y := by rw [spl1, if_neg hd]
      rw [if_neg hd, spl_snoc y (acc ++ [d]) c]
      simp only [e]
theorem ix_last (n : Nat) : ixN (n + 1) (-1) = some n := by
  unfold ixN
  simp
  omega
theorem set_last {α : Type} (A : List α) (u v : α) : (A ++ [u]).set A.length v = A ++ [v] := by
  rw [List.set_append_right _ _ (Nat.le_refl _), Nat.sub_self]; rfl
theorem mkS_app (a : List Nat) (c : Nat) : mkS a ++ sg c = mkS (a ++ [c]) := TL.ext_tl (by rw [TL.tl_append, tl_mkS, tl_mkS]; rfl)
theorem mkS_nil {w : List Nat} : mkS w = "" ↔ w = [] := ⟨fun q => by have := congrArg TL.tl q; rw [tl_mkS] at this; exact this, fun q => by rw [q]; rfl⟩
section
variable {P : Program} {w : World} {K : PySem.W.Frag} {mg : Str → Option Value} {base : Heap}
def spWords (K : PySem.W.Frag) : Sp := fun vs H Q _ => ∃ x : Str, vs = [.str x] ∧ x.length ≤ 600 ∧ ∀ r H', Same H H' → H r = none → H' r = some (.lst ((wordsOf (TL.tl x)).map wordV)) → Q (.ref r) H'
abbrev s__law_words : Stmt := top 24
abbrev N__law_words : List Str := ["_law_line", "_law_found", "_law_sign", "_law_word"]
abbrev P__law_words : List Str := ["_law_line"]
theorem sc__law_words : FnScope N__law_words P__law_words (defScope s__law_words) := ⟨rfl, rfl, rfl, by decide +kernel, rfl, by decide +kernel, by decide +kernel⟩

theorem ok_words {f : Addr} {fd : FuncData} (F : Fun K "_law_words" "_law_words" s__law_words f fd) : FnOk P w K mg base CX0 1 f fd P__law_words (spWords K) := by
  refine F.ok sc__law_words (fun vs H Q E h => ?_) (fun cdv A outer s H vs Q E hr h => ?_)
  · obtain ⟨x, rfl, _⟩ := h
    rfl
  · obtain ⟨x, rfl, hl, k⟩ := h
    have hu := hu_of hr
    refine ⟨_, (pss_cons (ps_set (i := 1) sc__law_words.nd rfl (Or.inl rfl) (pe_lst (pa_cons pe_str pa_nil)))
      (pss_cons (ps_for PassesOwn.never rfl (pi_str (pv 0)) (pg_name (i := 2) sc__law_words.nd rfl (Or.inl rfl)) (pss_one (ps_if (pt_cmpR op_eq (pv 2) pe_str (nomark _)) (pss_one (ps_expr (pe_bm PySem.F.plainAttrs_list PySem.F.slot_list_append PySem.F.type_list_append mt_append (pv 1) (pa_cons pe_str pa_nil)))) (pss_one (ps_asg (pe_op op_add_str (pe_ix ix_list (pv 1) (pe_un un_neg pe_int) (fun _ _ => rfl)) (pv 2)) (pg_sub (pv 1) (pe_un un_neg pe_int) set_list))))))
      (pss_one (ps_ret (pe_lc (own := [("_law_word", 3)]) (g := gName 3) (by rfl) sc__law_words.nd (pi_seq (K := K) rfl (pv 1)) (blkOk_by (own := [("_law_word", 3)]) (N := N__law_words) (sc := defScope s__law_words) (by decide +kernel)) (fun _ _ _ _ _ => pg_name (i := 3) sc__law_words.nd rfl (Or.inl rfl)) (fun _ _ _ _ _ => (pts_one (pt_cmpR op_ne (pv 3) pe_str (nomark _)))) (fun _ _ _ _ _ => (pv 3))))))), ?_⟩
    have hn : x.length = (TL.tl x).length := TL.len_tl x
    refine ⟨by show 1 ≤ sizeLine; decide, fun D hD => ?_⟩
    refine ⟨_, rfl, x, rfl, for_it walk_strS (fun i σ H1 => ∃ v2 v3 : Option V, σ = [some (.str x), some (.ref D), v2, v3] ∧ H1 D = some (.lst ((TL.spl [32] 0 [] ((TL.tl x).take i)).map wordV)) ∧ Same H H1)
      ⟨none, none, rfl, upd_same, same_new hD⟩ (fun _ _ _ _ _ => trivial) ?_ ?_⟩
    · rintro i v σ H2 H1 hi ⟨v2, v3, rfl, hD1, s1⟩ ⟨rfl, c, hc, rfl⟩
      obtain ⟨hlt, hce⟩ := List.getElem?_eq_some_iff.mp hc
      have hsn := spl_snoc ((TL.tl x).take i) [] c
      have e1 : (TL.tl x).take (i + 1) = (TL.tl x).take i ++ [c] := by rw [take_more hlt, hce]
      have hsl : (TL.spl [32] 0 [] ((TL.tl x).take i)).length ≤ 602 := by
        have h2 := PyProof.Rows.split_le (mkS ((TL.tl x).take i)) " "
        rw [split_sp, List.length_map, tl_mkS] at h2
        have h3 : (mkS ((TL.tl x).take i)).length = ((TL.tl x).take i).length := by rw [TL.len_tl, tl_mkS]
        rw [List.length_take] at h3
        omega
      have e32 : sg c = " " ↔ c = 32 := ⟨fun q => sg_inj (q : sg c = sg 32), fun q => by rw [q]; rfl⟩
      refine ⟨_, rfl, rfl, _, rfl, ite2 (fun c1 => ?_) (fun c1 => ?_)⟩
      · have c1 : c = 32 := e32.mp (by simpa using c1)
        rw [if_pos c1] at hsn
        refine ⟨_, rfl, Or.inl ⟨rfl, _, SqL.of hD1⟩, D, _, _, rfl, rfl, hD1, small1000 (by rw [List.length_map]; omega), _, _, rfl, ?_, s1.put hD⟩
        rw [upd_same, e1, hsn, List.map_append]; rfl
      · have c1 : c ≠ 32 := fun q => by rw [e32.mpr q] at c1; simp at c1
        rw [if_neg c1] at hsn
        have hne := spl_ne [32] 0 [] ((TL.tl x).take i)
        have hul : ((TL.spl [32] 0 [] ((TL.tl x).take i)).getLast hne).length ≤ 600 := by
          have := spl_len [32] 0 [] ((TL.tl x).take i) _ (List.getLast_mem hne)
          rw [List.length_nil, List.length_take] at this
          omega
        have eA := (List.dropLast_concat_getLast hne).symm
        generalize (TL.spl [32] 0 [] ((TL.tl x).take i)).getLast hne = u at hsn eA hul
        generalize (TL.spl [32] 0 [] ((TL.tl x).take i)).dropLast = A at hsn eA
        rw [eA, List.map_append] at hD1
        refine ⟨_, rfl, _, rfl, D, _, -1, wordV u, rfl, rfl, SqL.of hD1, atI_last _ _, _, rfl, _, _, rfl, rfl, ?_, _, rfl, _, rfl, D, _, -1, (A.map wordV).length, rfl, rfl, hD1, ?_, _, _, rfl, ?_, s1.put hD⟩
        · have : (mkS u).length = u.length := by rw [TL.len_tl, tl_mkS]
          show (mkS u).length + 1 ≤ sizeLine
          exact Nat.le_of_lt (small1000 (by omega))
        · show ixN (A.map wordV ++ [wordV u]).length (-1) = _
          rw [List.length_append, List.length_singleton]
          exact ix_last _
        · show L2.upd _ D (.lst ((A.map wordV ++ [wordV u]).set (A.map wordV).length (.str (mkS u ++ sg c)))) D = _
          rw [upd_same, set_last, e1, hsn, List.map_append, mkS_app]; rfl
    · rintro σ H1 ⟨v2, v3, rfl, hD1, s1⟩
      rw [hn, List.take_length] at hD1
      have hsl : (TL.spl [32] 0 [] (TL.tl x)).length ≤ 602 := by
        have h2 := PyProof.Rows.split_le x " "
        rw [split_sp, List.length_map] at h2
        omega
      refine ⟨_, rfl, D, _, rfl, Or.inl (SqL.of hD1), fun J hJ D2 hD2 => lc_it hJ (fun j H3 => H3 D2 = some (.lst ((((TL.spl [32] 0 [] (TL.tl x)).take j).filter fun w => decide (w ≠ [])).map wordV)) ∧ Same H1 H3) ⟨upd_same, same_new hD2⟩ (fun j H3 _ ⟨_, s3⟩ => GSq.same s3) ?_ ?_⟩
      · rintro j y H4 H3 hj ⟨hD3, s3⟩ ⟨rfl, hy⟩
        rw [List.length_map] at hj
        obtain rfl : wordV ((TL.spl [32] 0 [] (TL.tl x))[j]) = y := by
          rw [List.getElem?_map, List.getElem?_eq_getElem hj] at hy
          exact Option.some.inj hy
        have hlen : ((((TL.spl [32] 0 [] (TL.tl x)).take j).filter fun w => decide (w ≠ [])).map wordV).length < sizeLine := by
          rw [List.length_map]
          have h1 := List.length_filter_le (fun w => decide (w ≠ [])) ((TL.spl [32] 0 [] (TL.tl x)).take j)
          rw [List.length_take] at h1
          exact small1000 (by omega)
        refine ⟨rfl, ?_⟩
        refine ⟨_, rfl, rfl, _, rfl, ite2 (fun c => ?_) (fun c => ?_)⟩
        · have hz : (TL.spl [32] 0 [] (TL.tl x))[j] ≠ [] := fun q => by
            rw [q] at c
            simp [wordV] at c
            exact c rfl
          refine ⟨_, rfl, _, hD3, hlen, ?_, s3.put hD2⟩
          rw [upd_same, take_more hj, List.filter_append, List.filter_cons_of_pos (p := fun w => decide (w ≠ [])) (decide_eq_true hz), List.filter_nil, List.map_append]; rfl
        · have hz : (TL.spl [32] 0 [] (TL.tl x))[j] = [] := Classical.byContradiction fun q => by
            have q2 : mkS ((TL.spl [32] 0 [] (TL.tl x))[j]) ≠ "" := fun e => q (mkS_nil.mp e)
            simp [wordV] at c
            exact q2 c
          refine ⟨?_, s3⟩
          rw [take_more hj, List.filter_append, List.filter_cons_of_neg (by simp [hz]), List.filter_nil, List.append_nil]
          exact hD3
      · rintro H3 ⟨hD3, s3⟩
        rw [List.length_map, List.take_length] at hD3
        exact k D2 _ (s1.trans s3) (s1.free hD2) hD3
end
end Vf
set_option Elab.async false
set_option linter.all false
set_option maxRecDepth 100000
set_option maxHeartbeats 4000000
namespace Vf
open PySem L2 PyProof.Rows
/-- what the law makes of a word: a state below n, or none -/
def numX (n : Nat) (w : List Nat) : V := if okN n w = true then .int ((valN w : Nat) : Int) else .non
def chOk (x : List Nat) : Prop := ∀ c ∈ x, c < 1114112
def dgs : List Nat := TL.tl "0123456789"
theorem dgs_mem {c : Nat} : c ∈ dgs ↔ isDig c = true := by
  have h1 : ∀ d ∈ dgs, isDig d = true := by decide +kernel
  have h2 : ∀ d : Nat, d < 10 → 48 + d ∈ dgs := by decide +kernel
  refine ⟨h1 c, fun h => ?_⟩
  unfold isDig at h
  rw [Bool.and_eq_true, decide_eq_true_eq, decide_eq_true_eq] at h
  have := h2 (c - 48) (by omega)
  rwa [show 48 + (c - 48) = c by omega] at this
def odd (L : List Nat) (c : Nat) : Bool := !decide (c ∈ L)
theorem odd_nil {L x : List Nat} : x.filter (odd L) = [] ↔ ∀ c ∈ x, c ∈ L := by
  rw [List.filter_eq_nil_iff]
  refine forall_congr' fun c => imp_congr_right fun _ => ?_
  unfold odd
  simp
section
variable {P : Program} {w : World} {K : PySem.W.Frag} {mg : Str → Option Value} {base : Heap}
def spNumL : Sp := fun vs H Q _ => ∃ (x : Str) (n : Nat), vs = [.str x, .int n] ∧ x.length ≤ 600 ∧ chOk (TL.tl x) ∧ ∀ H', Same H H' → Q (numX n (TL.tl x)) H'
abbrev s__law_number : Stmt := top 23
abbrev N__law_number : List Str := ["_law_word", "_law_most", "_law_sign"]
abbrev P__law_number : List Str := ["_law_word", "_law_most"]
theorem sc__law_number : FnScope N__law_number P__law_number (defScope s__law_number) := ⟨rfl, rfl, rfl, by decide +kernel, rfl, by decide +kernel, by decide +kernel⟩

theorem ok_numL {f : Addr} {fd : FuncData} (F : Fun K "_law_number" "_law_number" s__law_number f fd) (Tl : mg "len" = none) (Ti : mg "int" = none) : FnOk P w K mg base CX0 1 f fd P__law_number spNumL := by
  refine F.ok sc__law_number (fun vs H Q E h => ?_) (fun cdv A outer s H vs Q E hr h => ?_)
  · obtain ⟨x, n, rfl, _⟩ := h
    rfl
  · obtain ⟨x, n, rfl, hl, hch, k⟩ := h
    have hu := hu_of hr
    refine ⟨_, (pss_cons (ps_if (PW.pt (pw_or (pt_cmpR op_eq (pv 0) pe_str (nomark _)) (pw_or (pt_cmpR op_gt (pe_callB call_len (by rfl) Tl PySem.boot_len (pa_cons (pv 0) pa_nil)) pe_int (nomark _)) (pw_or1 (pt_cmpR (op_neD hr.units) (pe_lc (own := [("_law_sign", 2)]) (g := gName 2) (by rfl) sc__law_number.nd (pi_str (pv 0)) (blkOk_by (own := [("_law_sign", 2)]) (N := N__law_number) (sc := defScope s__law_number) (by decide +kernel)) (fun _ _ _ _ _ => pg_name (i := 2) sc__law_number.nd rfl (Or.inl rfl)) (fun _ _ _ _ _ => (pts_one (pt_cmpR op_notIn_sign (pv 2) pe_str (by rfl)))) (fun _ _ _ _ _ => (pv 2))) (pe_lst pa_nil) (nomark _)))))) (pss_one (ps_ret pe_non)) pss_nil)
      (pss_cons (ps_if (PW.pt (pw_and (pt_cmpR op_eq (pe_ix ix_str (pv 0) pe_int (fun _ _ => rfl)) pe_str (nomark _)) (pw_and1 (pt_cmpR op_ne (pv 0) pe_str (nomark _))))) (pss_one (ps_ret pe_non)) pss_nil)
      (pss_one (ps_ret (pe_ifExp (PW.pt (pw_or (pt_cmpR op_isN (pv 1) pe_non (nomark _)) (pw_or1 (pt_cmpR op_lt (pe_callTy call_int_str (by rfl) Ti boot_int (pa_cons (pv 0) pa_nil)) (pv 1) (nomark _))))) (pe_callTy call_int_str (by rfl) Ti boot_int (pa_cons (pv 0) pa_nil)) pe_non))))), ?_⟩
    have hxs : x.length ≤ sizeLine := Nat.le_of_lt (small1000 (by omega))
    have hn : x.length = (TL.tl x).length := TL.len_tl x
    have none' : numW (TL.tl x) = none → ∀ H', Same H H' → Q .non H' := fun e H' s => by
      have := k H' s
      unfold numX okN at this
      rw [e] at this
      exact this
    by_cases h0 : TL.tl x = []
    · have ex : x = "" := TL.ext_tl h0
      refine ⟨_, rfl, rfl, _, rfl, ite2 (fun _ => ?_) (fun c => absurd (by rw [ex]; simp) c)⟩
      refine none' ?_ H (Same.refl H)
      unfold numW
      rw [if_neg fun q => q.2.1 h0]
    · have ex : x ≠ "" := fun q => h0 (by rw [q]; rfl)
      refine ⟨_, rfl, rfl, _, rfl, ite2 (fun c => absurd (by simpa using c) ex) (fun _ => ?_)⟩
      refine ⟨_, rfl, _, _, rfl, ⟨hxs, rfl⟩, _, _, rfl, rfl, _, rfl, ite2 (fun c => absurd c (by simp; omega)) (fun _ => ?_)⟩
      refine ⟨_, rfl, x, rfl, fun D hD => lc_it walk_strS (fun j H5 => H5 D = some (.lst (((((TL.tl x).take j).filter (odd dgs)).map sg).map V.str)) ∧ Same H H5) ⟨upd_same, same_new hD⟩ (fun _ _ _ _ => trivial) ?_ ?_⟩
      · rintro j y H2 H1 hj ⟨hD1, s1⟩ ⟨rfl, cc, hcc, rfl⟩
        obtain ⟨hjl, hje⟩ := List.getElem?_eq_some_iff.mp hcc
        have hlen : (((((TL.tl x).take j).filter (odd dgs)).map sg).map V.str).length < sizeLine := by
          rw [List.length_map, List.length_map]
          have h1 := List.length_filter_le (odd dgs) ((TL.tl x).take j)
          rw [List.length_take] at h1
          exact small1000 (by omega)
        refine ⟨rfl, ?_⟩
        refine ⟨_, rfl, cc, "0123456789", rfl, rfl, _, rfl, ?_⟩
        by_cases hd : cc ∈ dgs
        · have hd2 : cc ∈ (Str.ofString "0123456789").cps.toList := hd
          refine ite2 (fun c => absurd c (by rw [decide_eq_true hd2]; decide)) (fun _ => ⟨?_, s1⟩)
          rw [take_more hjl, hje, List.filter_append, List.filter_cons_of_neg (by unfold odd; simp [hd]), List.filter_nil, List.append_nil]
          exact hD1
        · have hd2 : ¬ cc ∈ (Str.ofString "0123456789").cps.toList := hd
          refine ite2 (fun _ => ?_) (fun c => absurd (by rw [decide_eq_false hd2]; rfl) c)
          refine ⟨_, rfl, _, hD1, hlen, ?_, s1.put hD⟩
          rw [upd_same, take_more hjl, hje, List.filter_append, List.filter_cons_of_pos (by unfold odd; simp [hd]), List.filter_nil, List.map_append, List.map_append]; rfl
      · rintro H1 ⟨hD1, s1⟩
        rw [TL.len_tl, List.take_length] at hD1
        refine ⟨by show 0 ≤ sizeLine; decide, fun E1 hE1 => ?_⟩
        have s2 := s1.trans (same_new (o := .lst []) hE1)
        refine ⟨.list ((((TL.tl x).filter (odd dgs)).map sg).map PyData.str), .list (([] : List Str).map PyData.str), .lst (SqL.of (same_new hE1 _ _ hD1)) (dpAll_strs _ _ _), .lst (xs := []) (SqL.of upd_same) .nil, shaped_sgs (fun c hc => hch c (List.mem_filter.mp hc).1), shaped_sgs (l := []) (fun c hc => nomatch hc), _, rfl, ?_⟩
        rw [eqv_strs]
        by_cases hf : (TL.tl x).filter (odd dgs) = []
        · refine ite2 (fun c => absurd c (by rw [hf]; simp)) (fun _ => ?_)
          have h1 : (TL.tl x).all isDig = true := List.all_eq_true.mpr fun c hc => dgs_mem.mp (odd_nil.mp hf c hc)
          obtain ⟨c0, r, hx⟩ : ∃ c0 r, TL.tl x = c0 :: r := by
            cases e : TL.tl x with
            | nil => exact absurd e h0
            | cons a b => exact ⟨a, b, rfl⟩
          have hc0 : (TL.tl x)[0]? = some c0 := by rw [hx]; rfl
          have e48 : ({ cps := #[c0] } : Str) = "0" ↔ c0 = 48 := ⟨fun q => sg_inj (q : sg c0 = sg 48), fun q => by rw [q]; rfl⟩
          have ex0 : x = "0" ↔ TL.tl x = [48] := ⟨fun q => by rw [q]; rfl, fun q => TL.ext_tl q⟩
          generalize L2.upd H1 E1 (.lst []) = H2 at s2 ⊢
          have it : intText? x = some ((NumText.digitsVal (TL.tl x) : Nat) : Int) := intText_digits (x := x) (dig_all h1) h0 (by omega)
          have fin : (c0 = 48 → TL.tl x = [48]) → ∀ Q' : VK, (∀ H', Same H H' → Q' (numX n (TL.tl x)) H') → tIf (tOr (tTest (tOp (fun x y H Q => y = V.non ∧ Q (V.bl (decide (x = V.non))) H) (tVar 1) (tC V.non))) (tTest (tOp (rI0 fun i j => V.bl (decide (i < j))) (tCB (fun xs H Q => ∃ a n, xs = [V.str a] ∧ intText? a = some n ∧ a.length ≤ 640 ∧ Q (V.int n) H) (tCons (tVar 0) tNil)) (tVar 1)))) (tCB (fun xs H Q => ∃ a n, xs = [V.str a] ∧ intText? a = some n ∧ a.length ≤ 640 ∧ Q (V.int n) H) (tCons (tVar 0) tNil)) (tC V.non) (L2.start N__law_number [V.str x, V.int n]) H2 Q' := fun q Q' k' => by
            have hw : numW (TL.tl x) = some (NumText.digitsVal (TL.tl x)) := by
              unfold numW
              rw [if_pos ⟨h1, h0, by omega, fun z => by rw [hx] at z; exact q (Option.some.inj z)⟩]
            have k2 := k' H2 s2
            unfold numX okN valN at k2
            rw [hw] at k2
            refine ⟨_, rfl, rfl, _, rfl, ite2 (fun c => absurd c (by simp)) (fun _ => ?_)⟩
            refine ⟨_, rfl, x, _, rfl, it, by omega, _, rfl, _, _, rfl, rfl, _, rfl, ite2 (fun c => ?_) (fun c => ?_)⟩
            · have c : NumText.digitsVal (TL.tl x) < n := by
                have := of_decide_eq_true c
                omega
              rw [if_pos (decide_eq_true c)] at k2
              exact ⟨_, rfl, x, _, rfl, it, by omega, k2⟩
            · have c : ¬ NumText.digitsVal (TL.tl x) < n := fun z => c (decide_eq_true (by omega))
              rw [if_neg (by simpa using c)] at k2
              exact k2
          refine ⟨_, rfl, x, 0, c0, rfl, rfl, hxs, at_of' (show (0 : Int) = ((0 : Nat) : Int) from rfl) hc0, rfl, _, rfl, ite2 (fun c => ?_) (fun c => ?_)⟩
          · have c : c0 = 48 := e48.mp (by simpa using c)
            refine ⟨_, rfl, rfl, _, rfl, ite2 (fun c2 => ?_) (fun c2 => ?_)⟩
            · have c2 : x ≠ "0" := by simpa using c2
              refine none' ?_ _ s2
              unfold numW
              rw [if_neg (fun q => c2 (ex0.mpr (q.2.2.2 (by rw [hx, c]; rfl))))]
            · have c2 : x = "0" := by simpa using c2
              exact fin (fun _ => ex0.mp c2) _ k
          · have c : c0 ≠ 48 := fun q => by rw [e48.mpr q] at c; simp at c
            exact fin (fun q => absurd q c) _ k
        · refine ite2 (fun _ => ?_) (fun c => absurd (by simp [hf]) c)
          refine none' ?_ _ s2
          unfold numW
          rw [if_neg fun q => hf (odd_nil.mpr fun c hc => dgs_mem.mpr (List.all_eq_true.mp q.1 c hc))]
end
end Vf
set_option Elab.async false
set_option linter.all false
set_option maxRecDepth 100000
set_option maxHeartbeats 4000000
namespace Vf
open PySem L2 PyProof.Rows
def gd (l : List Nat) (i : Nat) : Nat := l.getD i 0
def fal (l : List Nat) (i : Nat) : Bool := !decide (gd l i < gd l (i + 1))
theorem fal_nil {l : List Nat} (h : l.length ≤ 3) : (List.range (l.length - 1)).filter (fal l) = [] ↔ l.Pairwise (· < ·) := by
  rcases l with _ | ⟨a, _ | ⟨b, _ | ⟨c, _ | ⟨d, r⟩⟩⟩⟩
  · simp
  · simp
  · simp [List.range_succ, fal, gd]
  · have e : List.range 2 = [0, 1] := by decide
    show (List.range 2).filter (fal [a, b, c]) = [] ↔ _
    rw [e]
    simp [fal, gd]
    omega
  · simp at h
theorem sg_lt {a b : Nat} : (sg a).cps.toList < (sg b).cps.toList ↔ a < b := by
  show [a] < [b] ↔ a < b
  rw [List.cons_lt_cons_iff]
  simp
section
variable {P : Program} {w : World} {K : PySem.W.Frag} {mg : Str → Option Value} {base : Heap}
def spAreL : Sp := fun vs H Q _ => ∃ x : Str, vs = [.str x] ∧ x.length ≤ 600 ∧ chOk (TL.tl x) ∧ ∀ H', Same H H' → Q (.bl (okZ (TL.tl x))) H'
abbrev s__law_are_values : Stmt := top 25
abbrev N__law_are_values : List Str := ["_law_word", "_law_sign", "_law_k"]
abbrev P__law_are_values : List Str := ["_law_word"]
theorem sc__law_are_values : FnScope N__law_are_values P__law_are_values (defScope s__law_are_values) := ⟨rfl, rfl, rfl, by decide +kernel, rfl, by decide +kernel, by decide +kernel⟩

theorem ok_areL {f : Addr} {fd : FuncData} (F : Fun K "_law_are_values" "_law_are_values" s__law_are_values f fd) (T : TxtA K mg) : FnOk P w K mg base CX0 1 f fd P__law_are_values spAreL := by
  refine F.ok sc__law_are_values (fun vs H Q E h => ?_) (fun cdv A outer s H vs Q E hr h => ?_)
  · obtain ⟨x, rfl, _⟩ := h
    rfl
  · obtain ⟨x, rfl, hl, hch, k⟩ := h
    have hu := hu_of hr
    refine ⟨_, (pss_cons (ps_if (pt_cmpR (op_neD hr.units) (pe_lc (own := [("_law_sign", 1)]) (g := gName 1) (by rfl) sc__law_are_values.nd (pi_str (pv 0)) (blkOk_by (own := [("_law_sign", 1)]) (N := N__law_are_values) (sc := defScope s__law_are_values) (by decide +kernel)) (fun _ _ _ _ _ => pg_name (i := 1) sc__law_are_values.nd rfl (Or.inl rfl)) (fun _ _ _ _ _ => (pts_one (pt_cmpR op_notIn_sign (pv 1) pe_str (by rfl)))) (fun _ _ _ _ _ => (pv 1))) (pe_lst pa_nil) (nomark _)) (pss_one (ps_ret pe_bl)) pss_nil)
      (pss_one (ps_ret (L2.pe_and (pe_chain op_le op_le pe_int (pe_callB call_len (by rfl) T.len PySem.boot_len (pa_cons (pv 0) pa_nil)) pe_int) (pe_one (pe_cmpR (op_eqD hr.units) (pe_lc (own := [("_law_k", 2)]) (g := gName 2) (by rfl) sc__law_are_values.nd (pi_range2 (by rfl) T.range (pa_cons pe_int (pa_cons (pe_callB call_len (by rfl) T.len PySem.boot_len (pa_cons (pv 0) pa_nil)) pa_nil))) (blkOk_by (own := [("_law_k", 2)]) (N := N__law_are_values) (sc := defScope s__law_are_values) (by decide +kernel)) (fun _ _ _ _ _ => pg_name (i := 2) sc__law_are_values.nd rfl (Or.inl rfl)) (fun _ _ _ _ _ => (pts_one (pt_cmpR op_ge_str (pe_ix ix_str (pv 0) (pe_op op_sub (pv 2) pe_int) (fun _ _ => rfl)) (pe_ix ix_str (pv 0) (pv 2) (fun _ _ => rfl)) (nomark _)))) (fun _ _ _ _ _ => (pv 2))) (pe_lst pa_nil) (nomark _))))))), ?_⟩
    have hxs : x.length ≤ sizeLine := Nat.le_of_lt (small1000 (by omega))
    have hn : x.length = (TL.tl x).length := TL.len_tl x
    have bad : ¬ (∀ c ∈ TL.tl x, c ∈ alpha) → ∀ H', Same H H' → Q (.bl false) H' := fun h H' s => by
      have := k H' s
      unfold okZ at this
      have e : ((TL.tl x).all fun c => decide (97 ≤ c) && decide (c ≤ 122)) = false := by
        rw [← Bool.not_eq_true, List.all_eq_true]
        intro q
        refine h fun c hc => alpha_mem.mpr ?_
        have := q c hc
        rwa [Bool.and_eq_true, decide_eq_true_eq, decide_eq_true_eq] at this
      rw [e, Bool.false_and, Bool.and_false] at this
      exact this
    refine ⟨_, rfl, x, rfl, fun D hD => lc_it walk_strS (fun j H5 => H5 D = some (.lst (((((TL.tl x).take j).filter (odd alpha)).map sg).map V.str)) ∧ Same H H5) ⟨upd_same, same_new hD⟩ (fun _ _ _ _ => trivial) ?_ ?_⟩
    · rintro j y H2 H1 hj ⟨hD1, s1⟩ ⟨rfl, cc, hcc, rfl⟩
      obtain ⟨hjl, hje⟩ := List.getElem?_eq_some_iff.mp hcc
      have hlen : (((((TL.tl x).take j).filter (odd alpha)).map sg).map V.str).length < sizeLine := by
        rw [List.length_map, List.length_map]
        have h1 := List.length_filter_le (odd alpha) ((TL.tl x).take j)
        rw [List.length_take] at h1
        exact small1000 (by omega)
      refine ⟨rfl, ?_⟩
      refine ⟨_, rfl, cc, "abcdefghijklmnopqrstuvwxyz", rfl, rfl, _, rfl, ?_⟩
      by_cases hd : cc ∈ alpha
      · have hd2 : cc ∈ (Str.ofString "abcdefghijklmnopqrstuvwxyz").cps.toList := hd
        refine ite2 (fun c => absurd c (by rw [decide_eq_true hd2]; decide)) (fun _ => ⟨?_, s1⟩)
        rw [take_more hjl, hje, List.filter_append, List.filter_cons_of_neg (by unfold odd; simp [hd]), List.filter_nil, List.append_nil]
        exact hD1
      · have hd2 : ¬ cc ∈ (Str.ofString "abcdefghijklmnopqrstuvwxyz").cps.toList := hd
        refine ite2 (fun _ => ?_) (fun c => absurd (by rw [decide_eq_false hd2]; rfl) c)
        refine ⟨_, rfl, _, hD1, hlen, ?_, s1.put hD⟩
        rw [upd_same, take_more hjl, hje, List.filter_append, List.filter_cons_of_pos (by unfold odd; simp [hd]), List.filter_nil, List.map_append, List.map_append]; rfl
    · rintro H1 ⟨hD1, s1⟩
      rw [TL.len_tl, List.take_length] at hD1
      refine ⟨by show 0 ≤ sizeLine; decide, fun E1 hE1 => ?_⟩
      have s2 := s1.trans (same_new (o := .lst []) hE1)
      refine ⟨.list ((((TL.tl x).filter (odd alpha)).map sg).map PyData.str), .list (([] : List Str).map PyData.str), .lst (SqL.of (same_new hE1 _ _ hD1)) (dpAll_strs _ _ _), .lst (xs := []) (SqL.of upd_same) .nil, shaped_sgs (fun c hc => hch c (List.mem_filter.mp hc).1), shaped_sgs (l := []) (fun c hc => nomatch hc), _, rfl, ?_⟩
      rw [eqv_strs]
      generalize L2.upd H1 E1 (.lst []) = H2 at s2 ⊢
      by_cases hf : (TL.tl x).filter (odd alpha) = []
      · refine ite2 (fun c => absurd c (by rw [hf]; simp)) (fun _ => ?_)
        have hin := odd_nil.mp hf
        have hall : ((TL.tl x).all fun c => decide (97 ≤ c) && decide (c ≤ 122)) = true := by
          rw [List.all_eq_true]
          intro c hc
          rw [Bool.and_eq_true, decide_eq_true_eq, decide_eq_true_eq]
          exact alpha_mem.mp (hin c hc)
        have key := k
        unfold okZ at key
        rw [hall, Bool.true_and] at key
        refine ⟨_, rfl, _, _, rfl, ⟨hxs, rfl⟩, _, _, rfl, rfl, _, rfl, ?_⟩
        by_cases l1 : 1 ≤ x.length
        · rw [if_pos (decide_eq_true (by omega))]
          refine ⟨_, _, rfl, rfl, _, rfl, ?_⟩
          by_cases l3 : x.length ≤ 3
          · refine ite2 (fun _ => ?_) (fun c => absurd (decide_eq_true (by omega)) c)
            have hpre : (decide (1 ≤ (TL.tl x).length) && decide ((TL.tl x).length ≤ 3)) = true := by rw [Bool.and_eq_true, decide_eq_true_eq, decide_eq_true_eq]; omega
            rw [hpre, Bool.true_and] at key
            refine ⟨_, rfl, _, _, rfl, ⟨hxs, rfl⟩, 1, (x.length : Int), rfl, by omega, fun D3 hD3 => lc_range (lo := 1) (n := ((x.length : Int) - 1).toNat) (fun j H3 => H3 D3 = some (.lst ((((List.range j).filter (fal (TL.tl x))).map fun (i : Nat) => (1 + (i : Int))).map V.int)) ∧ Same H2 H3) ⟨upd_same, same_new hD3⟩ ?_ ?_⟩
            · rintro j H3 hj ⟨hD3', s3⟩
              have hj1 : j + 1 < (TL.tl x).length := by omega
              have g1 : gd (TL.tl x) j = (TL.tl x)[j] := by unfold gd; rw [List.getD_eq_getElem?_getD, List.getElem?_eq_getElem (by omega)]; rfl
              have g2 : gd (TL.tl x) (j + 1) = (TL.tl x)[j + 1] := by unfold gd; rw [List.getD_eq_getElem?_getD, List.getElem?_eq_getElem hj1]; rfl
              have a1 : atI x.cps.toList (1 + (j : Int)) = some (TL.tl x)[j + 1] := by
                rw [show (1 + (j : Int)) = ((j + 1 : Nat) : Int) by omega]
                exact atI_nat (List.getElem?_eq_getElem hj1)
              have a2 : atI x.cps.toList (1 + (j : Int) - 1) = some (TL.tl x)[j] := by
                rw [show (1 + (j : Int) - 1) = ((j : Nat) : Int) by omega]
                exact atI_nat (List.getElem?_eq_getElem (show j < (TL.tl x).length by omega))
              refine ⟨rfl, _, rfl, _, rfl, _, _, rfl, rfl, x, _, _, rfl, rfl, hxs, a2, _, rfl, _, rfl, x, _, _, rfl, rfl, hxs, a1, _, _, rfl, rfl, _, rfl, ?_⟩
              by_cases hc : (TL.tl x)[j] < (TL.tl x)[j + 1]
              · refine ite2 (fun c1 => absurd c1 ?_) (fun _ => ⟨?_, s3⟩)
                · show ¬ (!decide ((sg (TL.tl x)[j]).cps.toList < (sg (TL.tl x)[j + 1]).cps.toList)) = true
                  rw [decide_eq_true (sg_lt.mpr hc)]; decide
                · rw [List.range_succ, List.filter_append, List.filter_cons_of_neg (by unfold fal; rw [g1, g2, decide_eq_true hc]; decide), List.filter_nil, List.append_nil]
                  exact hD3'
              · refine ite2 (fun _ => ?_) (fun c1 => absurd ?_ c1)
                · refine ⟨_, rfl, _, hD3', ?_, ?_, s3.put hD3⟩
                  · rw [List.length_map, List.length_map]
                    refine Nat.lt_of_le_of_lt (List.length_filter_le _ _) ?_
                    rw [List.length_range]; exact small1000 (by omega)
                  · rw [upd_same, List.range_succ, List.filter_append, List.filter_cons_of_pos (by unfold fal; rw [g1, g2, decide_eq_false hc]; rfl), List.filter_nil, List.map_append, List.map_append]; rfl
                · show (!decide ((sg (TL.tl x)[j]).cps.toList < (sg (TL.tl x)[j + 1]).cps.toList)) = true
                  rw [decide_eq_false fun q => hc (sg_lt.mp q)]; rfl
            · rintro H3 ⟨hD3', s3⟩
              rw [show ((x.length : Int) - 1).toNat = (TL.tl x).length - 1 by omega] at hD3'
              refine ⟨by show 0 ≤ sizeLine; decide, fun E2 hE2 => ?_⟩
              refine ⟨intsD (((List.range ((TL.tl x).length - 1)).filter (fal (TL.tl x))).map fun (i : Nat) => (1 + (i : Int))), intsD [], .lst (SqL.of (same_new hE2 _ _ hD3')) (dpAll_ints _ _ _), .lst (xs := []) (SqL.of upd_same) .nil, shaped_intsD _, shaped_intsD _, ?_⟩
              rw [eqv_intsD]
              have e : decide ((((List.range ((TL.tl x).length - 1)).filter (fal (TL.tl x))).map fun (i : Nat) => (1 + (i : Int))) = []) = decide ((TL.tl x).Pairwise (· < ·)) := by
                rw [Bool.eq_iff_iff, decide_eq_true_eq, decide_eq_true_eq, List.map_eq_nil_iff]
                exact fal_nil (by omega)
              rw [e]
              exact key _ ((s2.trans s3).trans (same_new hE2))
          · refine ite2 (fun c => absurd (of_decide_eq_true c) (by omega)) (fun _ => ?_)
            have := key H2 s2
            have hpre : (decide (1 ≤ (TL.tl x).length) && decide ((TL.tl x).length ≤ 3)) = false := by rw [Bool.and_eq_false_iff]; right; rw [decide_eq_false_iff_not]; omega
            rw [hpre, Bool.false_and] at this
            exact this
        · rw [if_neg (by rw [decide_eq_true_eq]; omega)]
          refine ⟨_, rfl, ite2 (fun c => absurd c (by decide)) (fun _ => ?_)⟩
          have := key H2 s2
          have hpre : (decide (1 ≤ (TL.tl x).length) && decide ((TL.tl x).length ≤ 3)) = false := by rw [Bool.and_eq_false_iff]; left; rw [decide_eq_false_iff_not]; omega
          rw [hpre, Bool.false_and] at this
          exact this
      · refine ite2 (fun _ => ?_) (fun c => absurd (by simp [hf]) c)
        exact bad (fun q => hf (odd_nil.mpr q)) _ s2
end
end Vf
set_option Elab.async false
set_option linter.all false
set_option maxRecDepth 100000
set_option maxHeartbeats 4000000
/-! C(..) in a try: what is raised is wished for at the caller's slots -/
namespace L2
open PySem PySem.Spec PyProof.Rows
section
variable {X : Cx} {CX : CXT} {k : Nat} {f C : Addr} {fd : FuncData} {ps : List Str} {sp : Sp} {dvs : List V} {ds : List Value} {E : St → XK} {x : Str} {p pos : Pos} {e : Expr} {es : List Expr} {t : TA}
theorem run_makeV {pins : List (Addr × Obj)} {σ : St} {H : Hp} {s : Shared} {Q : VK} {us : List Value} {vs : List V} (M : Mk X.K C f) (F : FnOk X.prog X.w X.K X.mg X.base CX k f fd ps sp) (hr : Room (k + 1) X.A) (hb : Binds X.K fd ps ds) (hd : Vals dvs ds)
    (hx : PassesAt CX X σ (E σ)) (I : Inv X pins σ H s) (r : Vals vs us)
    (h : ∀ x dx, H x = none → H dx = none → dx ≠ x → sp (.ref x :: (vs ++ dvs)) (upd (upd H dx (.own x)) x (.ins C dx [])) (fun v H2 => v = .non ∧ Q (.ref x) H2) (E σ)) :
    wpAny (model X.prog X.w) X.A (call (.ref C) us) (EP X pins σ Q) X.xe s := by
  have hq := h (s.heap.objs.size + 1) s.heap.objs.size (I.hok.fresh (Nat.le_succ _)) (I.hok.fresh (Nat.le_refl _)) (Nat.ne_of_lt (Nat.lt_succ_self _))
  have I2 := Inv.made (C := C) I
  have r2 : Vals (V.ref (s.heap.objs.size + 1) :: (vs ++ dvs)) (Value.ref (s.heap.objs.size + 1) :: (us ++ ds)) := .cons rfl (r.append hd)
  have hl : (Value.ref (s.heap.objs.size + 1) :: us ++ ds).length = ps.length := by
    have e := r2.length
    rw [F.len _ _ _ _ hq] at e
    exact e.symm
  refine wpAny_call (make_map (f := f) I.kIn M.makes M.init (beq_iff_eq.mp M.fn) (codeAny_mono (F.run _ X.stack _ _ ⟨Value.ref (s.heap.objs.size + 1) :: us, []⟩ (Value.ref (s.heap.objs.size + 1) :: (us ++ ds)) _ _ (E σ) (hr.make C us [])
    (I2.env0.make C us []) (hb _ (Value.ref (s.heap.objs.size + 1) :: us) I2.kIn hl) r2 hq) fun r s' hq' => ?_))
  cases r with
  | error e => exact hx pins _ _ e s' I2 hq'
  | ok fl =>
    cases fl with
    | ret u =>
      obtain ⟨v, H', I3, rv, ev, q3⟩ := I2.after hq'
      subst ev
      exact ⟨rv, ⟨V.ref (s.heap.objs.size + 1), H', I3, rfl, q3⟩⟩
    | next => exact False.elim hq'
    | brk => exact False.elim hq'
    | cont => exact False.elim hq'
def tMakeV (C : Addr) (sp : Sp) (dvs : List V) (E : St → XK) (t : TA) : TE := fun σ H Q => t σ H fun vs H1 => ∀ x dx, H1 x = none → H1 dx = none → dx ≠ x →
  sp (.ref x :: (vs ++ dvs)) (upd (upd H1 dx (.own x)) x (.ins C dx [])) (fun v H2 => v = .non ∧ Q (.ref x) H2) (E σ)
theorem pe_makeV (M : Mk X.K C f) (F : FnOk X.prog X.w X.K X.mg X.base CX k f fd ps sp) (hr : Room (k + 1) X.A) (hg : Gl X x) (hm : X.mg x = some (.ref C)) (hb : Binds X.K fd ps ds) (hd : Vals dvs ds) (hx : ∀ σ, PassesAt CX X σ (E σ))
    (ha : PA X (e :: es) t) (hdb : (x == ("__debug__" : Str)) = false := by decide) (he : starEach (e :: es) X.env = (false, eval e X.env) :: starEach es X.env := by rfl) (hpl : (backTo pos (starEach es X.env)).any (·.1) = false := by rfl) :
    PE X (.Call (.Name x p) (e :: es) [] pos) (tMakeV C sp dvs E t) := by
  refine ⟨fun pins s σ H Q I h => ?_⟩
  refine wpAny_Call_Name_kw (ld_glob I hg hm ?_ hdb)
  refine PySem.W.callWith_K (h₀ := X.base) I.ok.mod.kin M.kp (thn (ha.run pos pins s σ H _ I h) fun us s1 ⟨vs, H1, I1, r, q⟩ => ⟨I1.kIn, ?_⟩) he hpl
  exact run_makeV M F hr hb hd (hx σ) I1 r q
end
end L2
set_option Elab.async false
set_option linter.all false
set_option maxRecDepth 100000
set_option maxHeartbeats 4000000
/-! what a made code pays -/
namespace Vf
open PySem L2 PyProof.Rows
section
variable {κ : Type} [DecidableEq κ]
theorem num_pre {l l' : List κ} {k : κ} (h : k ∈ l) (p : l <+: l') : num l' k = num l k := by
  obtain ⟨t, rfl⟩ := p
  unfold num
  rw [List.idxOf_append, if_pos h]
theorem num_get {l : List κ} {k : κ} (h : k ∈ l) : l[num l k]? = some k := by
  have hl := num_lt h
  rw [List.getElem?_eq_getElem hl]
  congr 1
  exact List.getElem_idxOf hl
theorem num_of {l : List κ} {k : κ} {i : Nat} (hn : l.Nodup) (h : l[i]? = some k) : num l k = i := by
  obtain ⟨hi, e⟩ := List.getElem?_eq_some_iff.mp h
  have hm : k ∈ l := List.mem_of_getElem? h
  have hl := num_lt hm
  have e2 : l[num l k] = k := List.getElem_idxOf hl
  exact (List.getElem_inj hn).mp (e2.trans e.symm)
theorem rowOf_eq (st : κ → Nat → κ) (m : κ) : ∀ (L : List Nat) (p : List κ × List Nat), (rowOf st m L p).2 = p.2 ++ L.map (fun c => num (rowOf st m L p).1 (st m c)) ∧ ∀ c ∈ L, st m c ∈ (rowOf st m L p).1
  | [], p => ⟨by simp [rowOf], fun c h => nomatch h⟩
  | c :: cs, (ks, row) => by
    obtain ⟨h1, h2⟩ := rowOf_eq st m cs (add1 ks (st m c), row ++ [num (add1 ks (st m c)) (st m c)])
    have hp := rowOf_pre st m cs (add1 ks (st m c), row ++ [num (add1 ks (st m c)) (st m c)])
    have hm : st m c ∈ add1 ks (st m c) := add1_mem
    refine ⟨?_, fun d hd => ?_⟩
    · show (rowOf st m cs (add1 ks (st m c), row ++ [num (add1 ks (st m c)) (st m c)])).2 = row ++ (c :: cs).map (fun c' => num (rowOf st m cs (add1 ks (st m c), row ++ [num (add1 ks (st m c)) (st m c)])).1 (st m c'))
      rw [h1, List.map_cons, num_pre hm hp]
      simp
    · rcases List.mem_cons.mp hd with e | e
      · rw [e]; exact hp.subset hm
      · exact h2 d e
theorem turns_eq (st : κ → Nat → κ) (L : List Nat) (s0 : κ) : ∀ (n i : Nat) (row : List Nat), (turns st L s0 n).2[i]? = some row → ∃ m, (turns st L s0 n).1[i]? = some m ∧ row = L.map (fun c => num (turns st L s0 n).1 (st m c)) ∧ ∀ c ∈ L, st m c ∈ (turns st L s0 n).1
  | 0, i, row, h => by simp [turns] at h
  | n + 1, i, row, h => by
    have ih := turns_eq st L s0 n
    have hrl := turns_rows_le st L s0 n
    revert h
    show (turn st L (turns st L s0 n)).2[i]? = some row → ∃ m, (turn st L (turns st L s0 n)).1[i]? = some m ∧ row = L.map (fun c => num (turn st L (turns st L s0 n)).1 (st m c)) ∧ ∀ c ∈ L, st m c ∈ (turn st L (turns st L s0 n)).1
    have hp := turn_pre st L (turns st L s0 n)
    revert hp
    unfold turn
    split
    · intro _ h
      exact ih i row h
    · rename_i mm hm
      dsimp only
      intro hp h
      by_cases hi : i < (turns st L s0 n).2.length
      · rw [List.getElem?_append_left hi] at h
        obtain ⟨m, h1, h2, h3⟩ := ih i row h
        have h4 : i < (turns st L s0 n).1.length := (List.getElem?_eq_some_iff.mp h1).1
        refine ⟨m, ?_, ?_, fun c hc => hp.subset (h3 c hc)⟩
        · obtain ⟨t, ht⟩ := hp
          rw [← ht, List.getElem?_append_left h4]
          exact h1
        · rw [h2]
          refine List.map_congr_left fun c hc => (num_pre (h3 c hc) hp).symm
      · have hl := (List.getElem?_eq_some_iff.mp h).1
        rw [List.length_append, List.length_singleton] at hl
        have ei : i = (turns st L s0 n).2.length := by omega
        subst ei
        rw [List.getElem?_append_right (Nat.le_refl _), Nat.sub_self] at h
        have h : (rowOf st mm L ((turns st L s0 n).1, [])).2 = row := Option.some.inj h
        obtain ⟨h1, h2⟩ := rowOf_eq st mm L ((turns st L s0 n).1, [])
        refine ⟨mm, ?_, by rw [← h, h1]; rfl, h2⟩
        have h4 := (List.getElem?_eq_some_iff.mp hm).1
        obtain ⟨t, ht⟩ := hp
        rw [← ht, List.getElem?_append_left h4]
        exact hm
/-- the bits along a column -/
def pay (st : κ → Nat → κ) (bt : κ → Nat → Int) : κ → List Nat → Int
  | _, [] => 0
  | k, c :: y => bt k c + pay st bt (st k c) y
/-- all keys have rows that tell where the letters lead -/
structure Full (st : κ → Nat → κ) (L : List Nat) (s0 : κ) (ks : List κ) (rows : List (List Nat)) : Prop where
  nd : ks.Nodup
  len : rows.length = ks.length
  s0_ : ks[0]? = some s0
  row : ∀ (i : Nat) (row : List Nat), rows[i]? = some row → ∃ m, ks[i]? = some m ∧ row = L.map (fun c => num ks (st m c)) ∧ ∀ c ∈ L, st m c ∈ ks
theorem full_of {st : κ → Nat → κ} {L : List Nat} {s0 : κ} {n : Nat} (h : (turns st L s0 n).1.length ≤ n) : Full st L s0 (turns st L s0 n).1 (turns st L s0 n).2 := by
  refine ⟨turns_nodup st L s0 n, turns_done st L s0 h, ?_, turns_eq st L s0 n⟩
  obtain ⟨t, ht⟩ := turns_pre st L s0 (Nat.zero_le n)
  rw [← ht]
  rfl
theorem Full.goal {st : κ → Nat → κ} {L : List Nat} {s0 : κ} {ks : List κ} {rows : List (List Nat)} (F : Full st L s0 ks rows) {k : κ} (hk : k ∈ ks) {c : Nat} (hc : c ∈ L) : st k c ∈ ks := by
  have h1 := num_get hk
  have h2 := num_lt hk
  obtain ⟨m, h3, _, h5⟩ := F.row (num ks k) _ (List.getElem?_eq_getElem (by rw [F.len]; exact h2))
  rw [h1] at h3
  rw [Option.some.inj h3]
  exact h5 c hc
theorem made_step {st : κ → Nat → κ} {bt : κ → Nat → Int} {L : List Nat} {s0 : κ} {ks : List κ} {rows : List (List Nat)} (F : Full st L s0 ks rows) {k : κ} (hk : k ∈ ks) {c : Nat} (hc : c ∈ L) (t : Int) :
    stepR (List.zipWith (fun k row => List.zipWith (fun c (n : Nat) => ((n : Int), bt k c)) L row) ks rows) L ((num ks k : Int), t) c = ((num ks (st k c) : Int), t + bt k c) := by
  have h1 := num_get hk
  have h2 := num_lt hk
  have hr : rows[num ks k]? = some (rows[num ks k]'(by rw [F.len]; exact h2)) := List.getElem?_eq_getElem _
  obtain ⟨m, h3, h4, _⟩ := F.row (num ks k) _ hr
  rw [h1] at h3
  obtain rfl : k = m := Option.some.inj h3
  have hci : L[L.idxOf c]? = some c := by
    have hl := List.idxOf_lt_length_iff.mpr hc
    rw [List.getElem?_eq_getElem hl, List.getElem_idxOf hl]
  unfold stepR
  have e1 : (((num ks k : Nat) : Int)).toNat = num ks k := Int.toNat_natCast _
  have e2 : (List.zipWith (fun k row => List.zipWith (fun c (n : Nat) => ((n : Int), bt k c)) L row) ks rows)[num ks k]? = some (List.zipWith (fun c (n : Nat) => ((n : Int), bt k c)) L (rows[num ks k]'(by rw [F.len]; exact h2))) := by
    rw [List.getElem?_zipWith, h1, hr]
  have e3 : (List.zipWith (fun c (n : Nat) => ((n : Int), bt k c)) L (rows[num ks k]'(by rw [F.len]; exact h2)))[L.idxOf c]? = some ((num ks (st k c) : Int), bt k c) := by
    rw [List.getElem?_zipWith, hci, h4, List.getElem?_map, hci]
    rfl
  simp only [e1, List.getD_eq_getElem?_getD, e2, Option.getD_some, e3]
theorem made_walk {st : κ → Nat → κ} {bt : κ → Nat → Int} {L : List Nat} {s0 : κ} {ks : List κ} {rows : List (List Nat)} (F : Full st L s0 ks rows) : ∀ (y : List Nat) (k : κ) (t : Int), k ∈ ks → (∀ c ∈ y, c ∈ L) →
    y.foldl (stepR (List.zipWith (fun k row => List.zipWith (fun c (n : Nat) => ((n : Int), bt k c)) L row) ks rows) L) ((num ks k : Int), t) = ((num ks (y.foldl st k) : Int), t + pay st bt k y) ∧ y.foldl st k ∈ ks
  | [], k, t, hk, _ => ⟨by simp [pay], hk⟩
  | c :: y, k, t, hk, hy => by
    have hc := hy c List.mem_cons_self
    obtain ⟨h1, h2⟩ := made_walk F y (st k c) (t + bt k c) (F.goal hk hc) fun d hd => hy d (List.mem_cons_of_mem _ hd)
    refine ⟨?_, h2⟩
    rw [List.foldl_cons, made_step F hk hc, h1, List.foldl_cons]
    show _ = (_, t + (bt k c + pay st bt (st k c) y))
    rw [Int.add_assoc]
theorem made_len {st : κ → Nat → κ} {bt : κ → Nat → Int} {en : κ → Int} {L : List Nat} {s0 : κ} {ks : List κ} {rows : List (List Nat)} (F : Full st L s0 ks rows) {y : List Nat} (hy : ∀ c ∈ y, c ∈ L) :
    lenR (List.zipWith (fun k row => List.zipWith (fun c (n : Nat) => ((n : Int), bt k c)) L row) ks rows) (ks.map en) L y = pay st bt s0 y + en (y.foldl st s0) := by
  have hs : s0 ∈ ks := List.mem_of_getElem? F.s0_
  have e0 : num ks s0 = 0 := num_of F.nd F.s0_
  obtain ⟨h1, h2⟩ := made_walk (bt := bt) F y s0 0 hs hy
  rw [e0] at h1
  unfold lenR walkR
  have h1' : y.foldl (stepR (List.zipWith (fun k row => List.zipWith (fun c (n : Nat) => ((n : Int), bt k c)) L row) ks rows) L) (0, 0) = _ := h1
  rw [h1']
  have e1 : (((num ks (y.foldl st s0) : Nat) : Int)).toNat = num ks (y.foldl st s0) := Int.toNat_natCast _
  have e2 : (ks.map en)[num ks (y.foldl st s0)]? = some (en (y.foldl st s0)) := by rw [List.getElem?_map, num_get h2]; rfl
  dsimp only
  rw [e1, List.getD_eq_getElem?_getD, e2, Option.getD_some, Int.zero_add]
theorem made_goodS {st : κ → Nat → κ} {bt : κ → Nat → Int} {L : List Nat} {s0 : κ} {ks : List κ} {rows : List (List Nat)} (F : Full st L s0 ks rows) : GoodS L.length (List.zipWith (fun k row => List.zipWith (fun c (n : Nat) => ((n : Int), bt k c)) L row) ks rows) := by
  refine ⟨fun r hr => ?_⟩
  obtain ⟨i, hi, e⟩ := List.getElem_of_mem hr
  rw [List.length_zipWith] at hi
  have hi1 : i < ks.length := by omega
  have hi2 : i < rows.length := by omega
  rw [List.getElem_zipWith] at e
  obtain ⟨m, h3, h4, h5⟩ := F.row i _ (List.getElem?_eq_getElem hi2)
  have hl : rows[i].length = L.length := by rw [h4, List.length_map]
  subst e
  refine ⟨by rw [List.length_zipWith]; omega, fun gb hg => ?_⟩
  obtain ⟨j, hj, q⟩ := List.getElem_of_mem hg
  rw [List.getElem_zipWith] at q
  rw [List.length_zipWith] at hj
  have hx : rows[i][j]'(by omega) ∈ rows[i] := List.getElem_mem _
  have gen : ∀ row : List Nat, row = L.map (fun c => num ks (st m c)) → ∀ x ∈ row, x < ks.length := fun row e x hx => by
    subst e
    obtain ⟨c, hc, ec⟩ := List.mem_map.mp hx
    rw [← ec]
    exact num_lt (h5 c hc)
  have hx2 := gen _ h4 _ hx
  have := F.len
  rw [← q, List.length_zipWith]
  dsimp only
  omega
end
end Vf
set_option Elab.async false
set_option linter.all false
set_option maxRecDepth 100000
set_option maxHeartbeats 4000000
namespace Vf
open PySem L2 PyProof.Rows
/-- what the methods ask of the class -/
structure TxtSM (K : PySem.W.Frag) (mg : Str → Option Value) (C fCG fCD B CB fB' fSP fSt fEq fLn : Addr) : Prop extends TxtS K mg C fCG fCD B CB fB' where
  mstrange_place : mg "strange_place" = some (.ref fSP)
  kstrange_place : PySem.W.keepIn K (.ref fSP) = true
  mtSt : Meth K C "step" fSt
  isinstance : mg "isinstance" = none
  ca : PySem.W.findIn K (.ref C) "__class__" = some (some (.builtin "object.__class__"))
  cn : PySem.W.specialIn K (.builtin "object.__class__") "__get__" = some (some (.builtin "getset_descriptor.__get__"))
  ct : PySem.W.takesIn K (.builtin "object.__class__") = some true
  cm : PySem.W.mroIn K C (.type "object") = some true
  kc : PySem.W.kitOne K (.ref C) (.ref C) = some true
  eqs : PySem.W.findIn K (.ref C) "__eq__" = some (some (.ref fEq))
  eqf : PySem.W.isFn K (.ref fEq) = true
  lns : PySem.W.findIn K (.ref C) "__len__" = some (some (.ref fLn))
  lnf : PySem.W.isFn K (.ref fLn) = true
section
variable {P : Program} {w : World} {K : PySem.W.Frag} {mg : Str → Option Value} {base : Heap}
def spEqS (K : PySem.W.Frag) (C : Addr) : Sp := fun vs H Q _ => ∃ (o o2 : Addr) (z z2 : Str) (rs rs2 : List (List Int)) (es es2 : List Int), vs = [.ref o, .ref o2] ∧ ShapeAt K C H o z rs es ∧ ShapeAt K C H o2 z2 rs2 es2 ∧
  ∀ H', Same H H' → Q (.bl (decide (z = z2) && (decide (rs = rs2) && decide (es = es2)))) H'
abbrev s_Shape___eq__ : Stmt := inClass (top 12) 1
abbrev N_Shape___eq__ : List Str := ["self", "other"]
abbrev P_Shape___eq__ : List Str := ["self", "other"]
theorem sc_Shape___eq__ : FnScope N_Shape___eq__ P_Shape___eq__ (defScope s_Shape___eq__) := ⟨rfl, rfl, rfl, by decide +kernel, rfl, by decide +kernel, by decide +kernel⟩

theorem ok_eqS {f C fCG fCD B CB fB' fSP fSt fEq fLn : Addr} {fd : FuncData} (F : Fun K "__eq__" "Shape.__eq__" s_Shape___eq__ f fd) (T : TxtSM K mg C fCG fCD B CB fB' fSP fSt fEq fLn) : FnOk P w K mg base CX0 1 f fd P_Shape___eq__ (spEqS K C) := by
  refine F.ok sc_Shape___eq__ (fun vs H Q E h => ?_) (fun cdv A outer s H vs Q E hr h => ?_)
  · obtain ⟨o, o2, z, z2, rs, rs2, es, es2, rfl, _⟩ := h
    rfl
  · obtain ⟨o, o2, z, z2, rs, rs2, es, es2, rfl, ⟨dx, R, Ev, ho, hR, hE⟩, ⟨dx2, R2, Ev2, ho2, hR2, hE2⟩, k⟩ := h
    refine ⟨_, (pss_one (ps_ret (L2.pe_and (pe_callB call_isi (by rfl) T.isinstance boot_isinstance (pa_cons (pv 1) (pa_cons (pe_glob (by rfl) T.mgShape (v := .ref C) rfl) pa_nil))) (L2.pe_and (pe_cmpR op_eq (pe_fld (pv 0) rfl) (pe_fld (pv 1) rfl) (nomark _)) (L2.pe_and (pe_cmpR (op_eqD hr.units) (pe_fld (pv 0) rfl) (pe_fld (pv 1) rfl) (nomark _)) (pe_one (pe_cmpR (op_eqD hr.units) (pe_fld (pv 0) rfl) (pe_fld (pv 1) rfl) (nomark _)))))))), ?_⟩
    refine ⟨_, rfl, _, _, _, _, _, rfl, .own C, .base (.ins ho2 T.cl T.ca T.cn T.ct T.cm), T.kc, true, rfl, ?_⟩
    rw [if_pos rfl]
    refine ⟨_, rfl, o, C, dx, _, _, rfl, ho, T.cl, T.nL, sf_letters _ _ _, _, rfl, o2, C, dx2, _, _, rfl, ho2, T.cl, T.nL, sf_letters _ _ _, rfl, _, rfl, ?_⟩
    by_cases hz : z = z2
    · rw [if_pos (decide_eq_true (congrArg V.str hz))]
      refine ⟨_, rfl, o, C, dx, _, _, rfl, ho, T.cl, T.nR, sf_rows _ _ _, _, rfl, o2, C, dx2, _, _, rfl, ho2, T.cl, T.nR, sf_rows _ _ _, rowsIT rs, rowsIT rs2, hR, hR2, shaped_rowsIT _, shaped_rowsIT _, _, rfl, ?_⟩
      rw [eqv_rowsIT]
      by_cases hr2 : rs = rs2
      · rw [if_pos (decide_eq_true hr2)]
        refine ⟨_, rfl, o, C, dx, _, _, rfl, ho, T.cl, T.nG, sf_good _ _ _, _, rfl, o2, C, dx2, _, _, rfl, ho2, T.cl, T.nG, sf_good _ _ _, intsT es, intsT es2, hE, hE2, shaped_intsT _, shaped_intsT _, ?_⟩
        rw [eqv_intsT]
        have := k H (Same.refl H)
        rw [decide_eq_true hz, decide_eq_true hr2, Bool.true_and, Bool.true_and] at this
        exact this
      · rw [if_neg (by simpa using hr2)]
        have := k H (Same.refl H)
        rw [decide_eq_true hz, decide_eq_false hr2, Bool.true_and, Bool.false_and] at this
        exact this
    · rw [if_neg (by simpa using hz)]
      have := k H (Same.refl H)
      rw [decide_eq_false hz, Bool.false_and] at this
      exact this
/-- made shapes compared -/
theorem eq_ok {K : PySem.W.Frag} {C o o2 : Addr} {H : Hp} {z z2 : Str} {gs gs2 : List (List Int)} {es es2 : List Int} {Q : VK} (a : MadeAt K C H o z gs es) (a2 : MadeAt K C H o2 z2 gs2 es2) (b : Bool) (hb : b = true ↔ (z = z2 ∧ gs = gs2 ∧ ∀ x, x ∈ es ↔ x ∈ es2)) (k : ∀ H', Same H H' → Q (.bl b) H') : rOwnI C (spEqS K C) E0 (.ref o) (.ref o2) H Q := by
  obtain ⟨f, u, m, h⟩ := a
  obtain ⟨f2, u2, m2, h2⟩ := a2
  obtain ⟨dx, R, E, ho, _⟩ := id h
  obtain ⟨dx2, R2, E2, ho2, _⟩ := id h2
  refine ⟨o, dx, _, o2, dx2, _, rfl, rfl, ho, ho2, o, o2, z, z2, gs, gs2, f, f2, rfl, h, h2, fun H' s => ?_⟩
  have e : (decide (z = z2) && (decide (gs = gs2) && decide (f = f2))) = b := by
    rw [Bool.eq_iff_iff, hb, Bool.and_eq_true, Bool.and_eq_true, decide_eq_true_eq, decide_eq_true_eq, decide_eq_true_eq]
    refine and_congr_right fun _ => and_congr_right fun _ => ?_
    constructor
    · rintro rfl x
      rw [← m x, m2 x]
    · intro q
      exact up_ext u u2 fun x => by rw [m x, q x, m2 x]
  rw [e]
  exact k H' s
end
open NdefX LamX
/-- a shape as data -/
def ShD (H : Hp) (t : Addr) (z : Str) (gs : List (List Int)) (es : List Int) : Prop := ∃ (R G : Addr) (rs : List Addr), H t = some (.tup [.str z, .ref R, .ref G]) ∧ H R = some (.lst (rs.map V.ref)) ∧ Forall2 (fun (r : Addr) (row : List Int) => H r = some (.lst (row.map V.int))) rs gs ∧ H G = some (.lst (es.map V.int))
theorem ShD.same {H H' : Hp} {t : Addr} {z : Str} {gs : List (List Int)} {es : List Int} (c : ShD H t z gs es) (s : Same H H') : ShD H' t z gs es := by
  obtain ⟨R, G, rs, h1, h2, h3, h4⟩ := c
  exact ⟨R, G, rs, s _ _ h1, s _ _ h2, h3.imp fun x y _ h => s _ _ h, s _ _ h4⟩
theorem ShD.kp {H H' : Hp} {t p : Addr} {z : Str} {gs : List (List Int)} {es : List Int} {kvs : List (Key × V)} (c : ShD H t z gs es) (k : Kp p H H') (hp : H p = some (.dK kvs)) : ShD H' t z gs es := by
  obtain ⟨R, G, rs, h1, h2, h3, h4⟩ := c
  exact ⟨R, G, rs, k _ _ h1 (L2.ne_of h1 hp (by intro z; cases z)), k _ _ h2 (L2.ne_of h2 hp (by intro z; cases z)), h3.imp fun x y _ h => k _ _ h (L2.ne_of h hp (by intro z; cases z)), k _ _ h4 (L2.ne_of h4 hp (by intro z; cases z))⟩
theorem ShD.sameT {NT : List NTab} {H H' : Hp} {t : Addr} {z : Str} {gs : List (List Int)} {es : List Int} (c : ShD H t z gs es) (k : SameT NT H H') : ShD H' t z gs es := by
  obtain ⟨R, G, rs, h1, h2, h3, h4⟩ := c
  exact ⟨R, G, rs, k.ext _ _ h1 (fun _ z => nomatch z), k.ext _ _ h2 (fun _ z => nomatch z), h3.imp fun x y _ h => k.ext _ _ h (fun _ z => nomatch z), k.ext _ _ h4 (fun _ z => nomatch z)⟩
section
variable {P : Program} {w : World} {K : PySem.W.Frag} {mg : Str → Option Value} {base : Heap}
def spShape : Sp := fun vs H Q _ => ∃ (p c : Addr) (z : Str) (most n : Nat), vs = [.ref p, .str z, .int most] ∧ Pen H p c n ∧ n ≤ 2 ^ 29 ∧ 1 ≤ most ∧ most ≤ 8 ∧ z.length ≤ 3 ∧
  ∀ (t : Addr) (H' : Hp) (gs : List (List Int)) (es : List Int), ShD H' t z gs es → GoodRows z.length gs → gs.length ≤ most → (∀ e ∈ es, 0 ≤ e ∧ e < (gs.length : Nat)) → es.length ≤ 8 → 0 < es.length → Pen H' p c (n + 100) → Kp p H H' → Q (.ref t) H'
abbrev s__law_shape : Stmt := top 21
abbrev N__law_shape : List Str := ["_law_pen_here", "_law_letters_here", "_law_most", "_law_count", "_law_rows", "_law_state", "_law_good", "_law_letter"]
abbrev P__law_shape : List Str := ["_law_pen_here", "_law_letters_here", "_law_most"]
theorem sc__law_shape : FnScope N__law_shape P__law_shape (defScope s__law_shape) := ⟨rfl, rfl, rfl, by decide +kernel, rfl, by decide +kernel, by decide +kernel⟩

theorem ok_shape {f fD : Addr} {fd fdD : FuncData} (F : Fun K "_law_shape" "_law_shape" s__law_shape f fd) (T : TxtD K mg fD) (FD : Fun K "_law_draw" "_law_draw" s__law_draw fD fdD) (b_law_draw : Binds K fdD P__law_draw []) : FnOk P w K mg base CX0 2 f fd P__law_shape spShape := by
  have G_law_draw : FnOk P w K mg base CX0 1 fD fdD P__law_draw spDraw := ok_draw FD T.toTxtA
  refine F.ok sc__law_shape (fun vs H Q E h => ?_) (fun cdv A outer s H vs Q E hr h => ?_)
  · obtain ⟨p, c, z, most, n, rfl, _⟩ := h
    rfl
  · obtain ⟨p, c, z, most, n, rfl, hp, hn, hm1, hm8, hz, k⟩ := h
    have hu := hu_of hr
    refine ⟨_, (pss_cons (ps_asg (pe_tup (pa_cons (pe_op op_add pe_int (pe_call G_law_draw (hr.mono (by decide)) (by rfl) T.m_law_draw T.k_law_draw b_law_draw .nil pass0 (pa_cons (pv 0) (pa_cons (pv 2) pa_nil)))) (pa_cons (pe_lst pa_nil) pa_nil))) (pg_tup (by rfl) (pgs_cons (pg_name (i := 3) sc__law_shape.nd rfl (Or.inr rfl)) (pgs_cons (pg_name (i := 4) sc__law_shape.nd rfl (Or.inl rfl)) pgs_nil))))
      (pss_cons (ps_for PassesOwn.never rfl (pi_range1 (by rfl) T.range (pa_cons (pv 3) pa_nil)) (pg_name (i := 5) sc__law_shape.nd rfl (Or.inl rfl)) (pss_one (ps_expr (pe_bm PySem.F.plainAttrs_list PySem.F.slot_list_append PySem.F.type_list_append mt_append (pv 4) (pa_cons (pe_lc (own := [("_law_letter", 7)]) (g := gName 7) (by rfl) sc__law_shape.nd (pi_str (pv 1)) (blkOk_by (own := [("_law_letter", 7)]) (N := N__law_shape) (sc := defScope s__law_shape) (by decide +kernel)) (fun _ _ _ _ _ => pg_name (i := 7) sc__law_shape.nd rfl (Or.inl rfl)) (fun _ _ _ _ _ => pts_nil) (fun _ _ _ _ _ => (pe_call G_law_draw (hr.mono (by decide)) (by rfl) T.m_law_draw T.k_law_draw b_law_draw .nil pass0 (pa_cons (pv 0) (pa_cons (pv 3) pa_nil))))) pa_nil)))))
      (pss_cons (ps_setLc (i := 6) (own := [("_law_state", 5)]) (g := gName 5) (by rfl) sc__law_shape.nd rfl rfl (sw_true rfl rfl rfl (by decide +kernel)) (pi_range1 (by rfl) T.range (pa_cons (pv 3) pa_nil)) (blkOk_by (own := [("_law_state", 5)]) (N := N__law_shape) (sc := defScope s__law_shape) (by decide +kernel)) (fun _ _ _ _ _ => pg_name (i := 5) sc__law_shape.nd rfl (Or.inl rfl)) (fun _ _ _ _ _ => (pts_one (pt_cmpR op_eq (pe_call G_law_draw (hr.mono (by decide)) (by rfl) T.m_law_draw T.k_law_draw b_law_draw .nil pass0 (pa_cons (pv 0) (pa_cons pe_int pa_nil))) pe_int (nomark _)))) (fun _ _ _ _ _ => (pv 5)))
      (pss_one (ps_ret (pe_tup (pa_cons (pv 1) (pa_cons (pv 4) (pa_cons (pe_ifExp (pt_cmpR (op_neD hr.units) (pv 6) (pe_lst pa_nil) (nomark _)) (pv 6) (pe_lst (pa_cons (pe_call G_law_draw (hr.mono (by decide)) (by rfl) T.m_law_draw T.k_law_draw b_law_draw .nil pass0 (pa_cons (pv 0) (pa_cons (pv 3) pa_nil))) pa_nil))) pa_nil))))))))), ?_⟩
    have hLz : (TL.tl z).length ≤ 3 := by rw [← TL.len_tl]; exact hz
    refine ⟨_, rfl, _, rfl, p, c, _, n, rfl, hp, by omega, by omega, by omega, fun d H1 d0 d1 hp1 k1 => ⟨_, _, rfl, rfl, by show 0 ≤ sizeLine; decide, fun R hR => ⟨by show 2 ≤ sizeLine; decide, fun tt htt => ?_⟩⟩⟩
    obtain ⟨nRp, nRc⟩ := hp1.new hR
    have s2 : Same H1 (L2.upd (L2.upd H1 R (.lst [])) tt (.tup [.int (1 + d), .ref R])) := (same_new hR).trans (same_new htt)
    have hR2 : (L2.upd (L2.upd H1 R (.lst [])) tt (.tup [.int (1 + d), .ref R])) R = some (.lst []) := same_new htt _ _ upd_same
    have ht2 : (L2.upd (L2.upd H1 R (.lst [])) tt (.tup [.int (1 + d), .ref R])) tt = some (.tup [.int (1 + d), .ref R]) := upd_same
    have hp2 := hp1.same s2
    have k2 : Kp p H1 (L2.upd (L2.upd H1 R (.lst [])) tt (.tup [.int (1 + d), .ref R])) := Kp.of s2
    refine ⟨tt, _, rfl, SqT.of ht2, rfl, _, _, rfl, _, _, rfl, rfl, ?_⟩
    change tSeq _ _ _ _ (L2.upd (L2.upd H1 R (.lst [])) tt (.tup [.int (1 + d), .ref R]))
    generalize L2.upd (L2.upd H1 R (.lst [])) tt (.tup [.int (1 + d), .ref R]) = H2 at hR2 hp2 k2 ⊢
    have hd8 : (1 + d).toNat ≤ 8 := by omega
    refine ⟨_, rfl, 1 + d, rfl, by omega, by omega, for_range (n := (1 + d).toNat) (fun i σ H3 => ∃ (v5 v6 v7 : Option V) (rs : List Addr) (gs : List (List Int)), σ = [some (.ref p), some (.str z), some (.int most), some (.int (1 + d)), some (.ref R), v5, v6, v7] ∧
      H3 R = some (.lst (rs.map V.ref)) ∧ Forall2 (fun (r : Addr) (row : List Int) => H3 r = some (.lst (row.map V.int))) rs gs ∧ (∀ r ∈ rs, r ≠ R) ∧ gs.length = i ∧ (∀ row ∈ gs, row.length = z.length ∧ ∀ g ∈ row, 0 ≤ g ∧ g < 1 + d) ∧ Pen H3 p c (n + 1 + i * 3) ∧ Kp p H1 H3)
      ⟨none, none, none, [], [], rfl, hR2, ⟨rfl, fun i x y e1 e2 => nomatch e1⟩, (fun r hr => nomatch hr), rfl, (fun r hr => nomatch hr), hp2, k2⟩ ?_ ?_⟩
    · rintro i σ H3 hi ⟨v5, v6, v7, rs, gs, rfl, hR3, hrs, hne, hgl, hrow, hp3, k3⟩
      refine ⟨_, rfl, Or.inl ⟨rfl, _, SqL.of hR3⟩, _, rfl, z, rfl, fun D hD => lc_it walk_strS (fun j H4 => ∃ row : List Int, H4 D = some (.lst (row.map V.int)) ∧ row.length = j ∧ (∀ g ∈ row, 0 ≤ g ∧ g < 1 + d) ∧ Pen H4 p c (n + 1 + i * 3 + j) ∧ Kp p H3 H4) ⟨[], upd_same, rfl, (fun r hr => nomatch hr), hp3.same (same_new hD), Kp.of (same_new hD)⟩ (fun _ _ _ _ => trivial) ?_ ?_⟩
      · rintro j x H4' H4 hj ⟨row, hD4, hrl, hrg, hp4, k4⟩ ⟨rfl, cc, hcc, rfl⟩
        obtain ⟨nDp, nDc⟩ := hp3.new hD
        have hj3 : j < 3 := by
          have := (List.getElem?_eq_some_iff.mp hcc).1
          omega
        refine ⟨rfl, ?_⟩
        refine lcYes ?_
        refine ⟨_, rfl, _, rfl, p, c, 1 + d, _, rfl, hp4, by omega, by omega, by omega, fun g H5 g0 g1 hp5 k5 => ?_⟩
        have hD5 := k5 _ _ hD4 nDp
        refine ⟨_, hD5, ?_, row ++ [g], ?_, ?_, fun x hx => ?_, ?_, (k4.trans k5).put hD⟩
        · rw [List.length_map]; exact small1000 (by omega)
        · rw [upd_same, List.map_append, List.map_singleton]
        · rw [List.length_append, hrl]; rfl
        · rcases List.mem_append.mp hx with q | q
          · exact hrg x q
          · rw [List.mem_singleton.mp q]; exact ⟨g0, g1⟩
        · exact (hp5.put nDp nDc).mono (by omega)
      · rintro H4 ⟨row, hD4, hrl, hrg, hp4, k4⟩
        have hR4 := k4 _ _ hR3 nRp
        obtain ⟨kv3, hd3⟩ := hp3.dk
        have nDR : D ≠ R := (ne_of_none hR3 hD).symm
        have hrs4 : Forall2 (fun (q : Addr) (row : List Int) => (L2.upd H4 R (.lst (rs.map V.ref ++ [.ref D]))) q = some (.lst (row.map V.int))) rs gs := ⟨hrs.1, fun i x y e1 e2 => by
          have h3 := hrs.2 i x y e1 e2
          show (L2.upd H4 R _) x = _
          rw [upd_ne (hne x (List.mem_of_getElem? e1))]
          exact k4 _ _ h3 (L2.ne_of h3 hd3 (fun z => nomatch z))⟩
        refine ⟨R, _, _, rfl, rfl, hR4, small1000 (by rw [List.length_map, hrs.1]; omega), _, _, _, rs ++ [D], gs ++ [row], rfl, by rw [upd_same, List.map_append]; rfl, hrs4.snoc (by rw [upd_ne nDR]; exact hD4), fun q hq => ?_, by rw [List.length_append, hgl]; rfl, fun x hx => ?_, (hp4.put nRp nRc).mono (by rw [← TL.len_tl] at hLz; omega), (k3.trans k4).put hR⟩
        · rcases List.mem_append.mp hq with h | h
          · exact hne q h
          · rw [List.mem_singleton.mp h]; exact nDR
        · rcases List.mem_append.mp hx with h | h
          · exact hrow x h
          · rw [List.mem_singleton.mp h]
            exact ⟨hrl, hrg⟩
    · rintro σ H3 ⟨v5, v6, v7, rs, gs, rfl, hR3, hrs, hne, hgl, hrow, hp3, k3⟩
      have hgn : GoodRows z.length gs := ⟨fun j hj hb => by
        obtain ⟨h1, h2⟩ := hrow _ (List.getElem_mem hj)
        rcases hb with h | ⟨g, hg, h⟩
        · exact h h1
        · have := h2 g hg
          exact h (by omega), by omega⟩
      obtain ⟨kv3, hd3⟩ := hp3.dk
      refine ⟨_, rfl, 1 + d, rfl, by omega, by omega, fun D hD => lc_range (lo := 0) (n := (1 + d).toNat) (fun j H4 => ∃ es : List Int, H4 D = some (.lst (es.map V.int)) ∧ (∀ e ∈ es, 0 ≤ e ∧ e < j) ∧ es.length ≤ j ∧ Pen H4 p c (n + 1 + (1 + d).toNat * 3 + j) ∧ Kp p H3 H4) ⟨[], upd_same, (fun r hr => nomatch hr), Nat.le_refl _, hp3.same (same_new hD), Kp.of (same_new hD)⟩ ?_ ?_⟩
      · rintro j H4 hj ⟨es, hD4, hes, hel, hp4, k4⟩
        obtain ⟨nDp, nDc⟩ := hp3.new hD
        refine ⟨rfl, ?_⟩
        refine ⟨_, rfl, p, c, 2, _, rfl, hp4, by omega, by decide, by decide, fun g H5 g0 g1 hp5 k5 => ⟨rfl, _, rfl, ?_⟩⟩
        have hD5 := k5 _ _ hD4 nDp
        refine ite2 (fun c1 => ?_) (fun c1 => ?_)
        · refine ⟨_, rfl, _, hD5, ?_, es ++ [(j : Int)], ?_, fun e he => ?_, ?_, ?_, (k4.trans k5).put hD⟩
          · rw [List.length_map]; exact small1000 (by omega)
          · rw [upd_same, List.map_append, List.map_singleton, Int.zero_add]
          · rcases List.mem_append.mp he with q | q
            · have := hes e q; omega
            · rw [List.mem_singleton.mp q]; omega
          · rw [List.length_append, List.length_singleton]; omega
          · exact (hp5.put nDp nDc).mono (by omega)
        · exact ⟨es, hD5, fun e he => by have := hes e he; omega, by omega, hp5.mono (by omega), k4.trans k5⟩
      · rintro H4 ⟨es, hD4, hes, hel, hp4, k4⟩
        have hR4 := k4 _ _ hR3 nRp
        have hrs4 : Forall2 (fun (q : Addr) (row : List Int) => H4 q = some (.lst (row.map V.int))) rs gs := hrs.imp fun x y _ h => k4 _ _ h (L2.ne_of h hd3 (fun z => nomatch z))
        refine ⟨_, rfl, _, rfl, _, rfl, by show 0 ≤ sizeLine; decide, fun E1 hE1 => ⟨intsD es, intsD [], .lst (SqL.of (same_new hE1 _ _ hD4)) (dpAll_ints _ _ _), .lst (xs := []) (SqL.of upd_same) .nil, shaped_intsD _, shaped_intsD _, _, rfl, ?_⟩⟩
        have s5 : Same H4 (L2.upd H4 E1 (.lst [])) := same_new hE1
        generalize L2.upd H4 E1 (.lst []) = H5 at s5 ⊢
        rw [eqv_intsD]
        have fin : ∀ (G : Addr) (H6 : Hp) (es' : List Int), H6 G = some (.lst (es'.map V.int)) → Kp p H4 H6 → Pen H6 p c (n + 1 + (1 + d).toNat * 3 + (1 + d).toNat + 1) → (∀ e ∈ es', 0 ≤ e ∧ e < (gs.length : Nat)) → es'.length ≤ 8 → 0 < es'.length → ∀ t, H6 t = none → Q (.ref t) (L2.upd H6 t (.tup [.str z, .ref R, .ref G])) := fun G H6 es' hG k6 hp6 he hl hpos t ht => by
          obtain ⟨kv4, hd4⟩ := hp4.dk
          refine k t _ gs es' ⟨R, G, rs, upd_same, same_new ht _ _ (k6 _ _ hR4 nRp), hrs4.imp fun x y _ h => same_new ht _ _ (k6 _ _ h (L2.ne_of h hd4 (fun z => nomatch z))), same_new ht _ _ hG⟩ hgn (by omega) he hl hpos ((hp6.same (same_new ht)).mono (by omega)) ?_
          exact (((k1.trans k3).trans k4).trans k6).trans (Kp.of (same_new ht))
        by_cases he : es = []
        · rw [show decide (es = []) = true from decide_eq_true he]
          refine ite2 (fun c => absurd c (by decide)) (fun _ => ?_)
          have hp5 := hp4.same s5
          refine ⟨_, rfl, _, rfl, p, c, 1 + d, _, rfl, hp5, by omega, by omega, by omega, fun g H6 g0 g1 hp6 k6 => ⟨by show 1 ≤ sizeLine; decide, fun G hG => ⟨by show 3 ≤ sizeLine; decide, fun t ht => ?_⟩⟩⟩
          exact fin G _ [g] upd_same (((Kp.of s5).trans k6).trans (Kp.of (same_new hG))) ((hp6.same (same_new hG)).mono (by omega)) (fun e he => by rw [List.mem_singleton.mp he]; omega) (by show 1 ≤ 8; decide) (by show 0 < 1; decide) t ht
        · rw [show decide (es = []) = false from decide_eq_false he]
          refine ite2 (fun _ => ?_) (fun c => absurd rfl c)
          refine ⟨_, rfl, by show 3 ≤ sizeLine; decide, fun t ht => ?_⟩
          exact fin D H5 es (s5 _ _ hD4) (Kp.of s5) ((hp4.same s5).mono (by omega)) (fun e he => by have := hes e he; omega) (by omega) (List.length_pos_iff.mpr he) t ht
end
end Vf
set_option Elab.async false
set_option linter.all false
set_option maxRecDepth 100000
set_option maxHeartbeats 4000000
/-! C.m(..), m a classmethod, in a try: what is raised is wished for at the caller's slots -/
namespace L2
open PySem PySem.Spec PyProof.Rows
open ClX
section
variable {X : Cx} {CX : CXT} {k : Nat} {C p g : Addr} {mc : Value} {sp : Sp} {E : St → XK} {o e : Expr} {es : List Expr} {f m : Str} {pos apos : Pos} {ta : TE} {t : TA} {pl : Sem Bool}
theorem run_cmV {pins : List (Addr × Obj)} {σ : St} {H : Hp} {s : Shared} {q : Addr} {Q : VK} {us : List Value} {vs : List V} (F : FnR X.prog X.w X.K X.mg X.base CX k g sp) (hr : Room k X.A) (hx : PassesAt CX X σ (E σ)) (I : Inv X ((q, PySem.W.methodObj (.ref g) (.ref C)) :: pins) σ H s)
    (r : Vals vs us) (h : sp (.ref C :: vs) H Q (E σ)) : wpAny (model X.prog X.w) X.A (call (.ref q) us) (EP X pins σ Q) X.xe s := by
  have z : wpAny (model X.prog X.w) X.A (call (.ref q) us) (EP X ((q, PySem.W.methodObj (.ref g) (.ref C)) :: pins) σ Q) X.xe s := by
    refine wpAny_call (PySem.W.method_call (pin_at I) (codeAny_mono (F X.A X.stack s H (.ref C :: us) (.ref C :: vs) Q (E σ) hr I.env0 (.cons rfl r) h) fun r s' hq => ?_))
    cases r with
    | error e => exact hx _ _ _ e s' I hq
    | ok fl =>
      cases fl with
      | ret u => exact I.after hq
      | next => exact False.elim hq
      | brk => exact False.elim hq
      | cont => exact False.elim hq
  exact thn z fun _ _ y => unpinE y
def tCMethV (C : Addr) (sp : Sp) (E : St → XK) (ta : TE) (t : TA) : TE := fun σ H Q => ta σ H fun x H1 => x = .ref C ∧ t σ H1 fun vs H2 => sp (.ref C :: vs) H2 Q (E σ)
theorem pe_cmethV (he : PE X o ta) (r : CRead X.K C mc) (c : CMet X.K C mc m p g) (F : FnR X.prog X.w X.K X.mg X.base CX k g sp) (hr : Room k X.A) (hx : ∀ σ, PassesAt CX X σ (E σ)) (ha : PA X (e :: es) t)
    (hst : starEach (e :: es) X.env = (false, eval e X.env) :: starEach es X.env := by rfl) (hpl : (backTo pos (starEach es X.env)).any (·.1) = false := by rfl)
    (ht : eval (.Call (.Attribute o m apos) (e :: es) [] pos) X.env = (do
      let ov ← eval o X.env
      standAt apos.atName
      let (f, first) ← holding [ov] (getMethod ov m pl)
      callWith pos f first (backTo pos (starEach (e :: es) X.env)) (backToKw pos (keywordEach [] X.env))) := by rfl) :
    PE X (.Call (.Attribute o m apos) (e :: es) [] pos) (tCMethV C sp E ta t) := by
  refine ⟨fun pins s σ H Q I h => ?_⟩
  refine PySem.W.methodCall_KW (pl := pl) (thn (he.run pins s σ H _ I h) fun u s1 ⟨x, H1, I1, rx, ex, q⟩ => ?_) ht
  subst ex
  obtain rfl : u = Value.ref C := rx
  refine getmethcm_ok I1 r c fun s2 I2 => ?_
  refine callwith_cm I2 (base_none I1 (Nat.le_refl _)) c.fi (thn (ha.run pos _ s2 σ H1 _ I2 q) fun us s3 ⟨vs, H2, I3, rv, q2⟩ => ⟨⟨pin_at I3, I3.kIn⟩, ?_⟩) hst hpl
  exact run_cmV F hr (hx σ) I3 rv q2
end
end L2
set_option Elab.async false
set_option linter.all false
set_option maxRecDepth 100000
set_option maxHeartbeats 4000000
/-! isinstance of a caught error of an own class, with or without fields -/
namespace Vf
open PySem
/-! where lambdas stand: in lists, in expressions that are statements -/
def lstN : PySem.Expr → Nat → PySem.Expr
  | .List es _, i => es.getD i (.Constant .none 0 ⟨0, 0, 0, 0⟩)
  | e, _ => e
def stExp : Stmt → PySem.Expr
  | .Expr v _ => v
  | _ => .Constant .none 0 ⟨0, 0, 0, 0⟩
end Vf
namespace Vf
open PySem PySem.Spec PySem.Calls PyProof.Rows PySem.W
section
variable {prog : Program} {w : World} {A : Around} {K : PySem.W.Frag} {x D : Addr} {ox : Obj} {od : Option Obj}
/-- a data descriptor of the class goes ahead of what the instance's dict holds -/
theorem found_desc {name : Str} {a g : Value} (hc : (clsIn K D).isSome = true) (ha : findIn K (.ref D) name = some (some a)) (hg : specialIn K a "__get__" = some (some g)) (ht : takesIn K a = some true) : findObj K D od name = some (.bind g a) := by
  obtain ⟨cd, hc⟩ := Option.isSome_iff_exists.mp hc
  simp only [findObj, hc, Option.bind_some, ha, hg, ht]
theorem class_of_exc {E : Value → Shared → Prop} {s : Shared} {Q : Option Value → Shared → Prop} (C : L2.ExcC K D) (X : K.In s.heap) (I : InstAt s.heap x ox D od) (h : Q (some (.ref D)) { s with toks := s.toks + 1 }) :
    wpAny (model prog w) A (getAttr? (.ref x) "__class__") Q E s := by
  have hf : findObj K D od "__class__" = some (.bind (.builtin "getset_descriptor.__get__") (.builtin "object.__class__")) := found_desc (by obtain ⟨cd, hc, _⟩ := any_some C.hd; simp [hc]) C.ha C.hn C.ht
  have hm := C.hm
  obtain ⟨hp, g, d, t, os⟩ := s
  have M0 : Looks (model prog w) hp (typeOf (.ref x)) (.ref D) := I.type
  have M1 := looks_findIn (M := model prog w) X C.hg
  have M2 := looks_findIn (M := model prog w) X C.hk
  have M3 := looks_find (M := model prog w) X I hf
  have isEx : Looks (model prog w) hp (isInstance (.ref x) (.type "BaseException")) true := M0.andThen (looks_subIn X C.hs)
  have b0 : (false && onTheHeap (Value.builtin "BaseException.__getattribute__")) = false := rfl
  have b1 : (Value.builtin "BaseException.__getattribute__" == Value.builtin "object.__getattribute__") = false := by decide +kernel
  have b2 : (onTheHeap (Value.ref D) && Value.builtin "BaseException.__getattribute__" == Value.builtin "object.__getattribute__") = false := by simp [b1]
  unfold getAttr? getAttrBy? getAttrBy
  refine wpAny_bind (wpAny_mkText (wpAny_bind (wpAny_attempt (wpAny_holding (wpAny_bind (M0.at (wpAny_bind (M1.at ?_))))))))
  show wpAny (model prog w) A (if (onTheHeap (Value.ref D) && Value.builtin "BaseException.__getattribute__" == Value.builtin "object.__getattribute__") = true then _ else _) _ _ _
  rw [b2, if_neg Bool.false_ne_true]
  unfold getAttrByItsOwn hookBefore
  refine wpAny_bind ?_
  rw [if_pos (show onTheHeap (Value.ref D) = true by rfl)]
  refine M2.at (wpAny_bind (wpAny_attempt (wpAny_holding ?_)))
  unfold callGetattribute
  rw [b0, if_neg Bool.false_ne_true]
  unfold boundAndCalled
  rw [PySem.F.excAttr_ValueError.ga.bind (.ref x)]
  refine wpAny_bind (wpAny_pure ?_)
  show wpAny (model prog w) _ (call (.builtin "BaseException.__getattribute__") [.ref x, .str "__class__" t]) _ _ _
  refine wpAny_call (codeAny_call_builtin PySem.F.excAttr_ValueError.ga.plain PySem.F.entry_bexc_ga (@check_slot (model prog w) _ _ ⟨hp, g, d, t + 1, os⟩ "BaseException.__getattribute__" "BaseException" "__getattribute__" (.ref x) [.str "__class__" t] [] _ (by decide +kernel) (by decide +kernel) isEx (PySem.F.args_bexc_ga (.ref x) (.str "__class__" t)) ?_))
  unfold Builtin.«object.__getattribute__»
  refine wpAny_bind (wpAny_of_eq (a := ((Value.ref x : Value), [Value.str "__class__" t])) (by first | rfl | (simp only [slotArgs]; rfl)) (wpAny_bind (wpAny_pure (wpAny_bind (M0.at (wpAny_bind (M3.at ?_)))))))
  show wpAny (model prog w) _ (holding [Value.builtin "object.__class__"] (call (.builtin "getset_descriptor.__get__") [.builtin "object.__class__", .ref x, .ref D]) >>= ret) _ _ _
  refine wpAny_bind (wpAny_holding (wpAny_call (class_get (s := ⟨hp, g, d, t + 1, os⟩) (ox := ox) (od := od) X I hm (wpAny_pure ?_))))
  show wpAny (model prog w) _ (handedOut (.ref D)) _ _ _
  rw [handedOut_of (v := .ref D) rfl]
  first | exact wpAny_pure (wpAny_pure h) | exact wpAny_pure h | exact wpAny_pure (wpAny_bind (wpAny_pure (wpAny_pure h)))
theorem kit_exc (C : L2.ExcC K D) : KitX K (.ref x) (.ref D) (fun h => InstAt h x ox D od) where
  ty := fun M h X I => I.type
  it := fun M h X I => by
    obtain ⟨cd, hc, _⟩ := any_some C.hd
    unfold clsIn at hc
    split at hc
    · rename_i c' d' cd' sl' ho
      intro A' Q' E' s' k q
      unfold isType loadHead
      exact wpAny_bind (wpAny_loadPart (k _ _ (X _ _ ho)) (wpAny_pure q))
    · cases hc
  ne := fun h tp dd its n sl X htp => by
    obtain ⟨cd, hc, _⟩ := any_some C.hd
    refine beq_eq_false_iff_ne.mpr fun q => ?_
    have e : D = tp := Value.ref.inj q
    subst e
    unfold clsIn at hc
    split at hc
    · rename_i c' d' cd' sl' ho
      have := (X _ _ ho).symm.trans htp
      cases this
    · cases hc
  ca := fun X I k => class_of_exc C X I k
end
end Vf
namespace L2
open PySem PySem.Spec PyProof.Rows
/-- isinstance(e, c), e the exception that the suite holds: with a dict, or without -/
def rIsX (K : PySem.W.Frag) (a : Addr) (cls : Value) (d : Option Addr) : List V → Hp → VK → Prop := fun xs H Q => ∃ (D : Addr) (c : V) (cv : Value) (b : Bool), cls = .ref D ∧ ExcC K D ∧ (d = none ∨ ∃ (dd : Addr) (fs : List (Str × V)), d = some dd ∧ H dd = some (.xd fs)) ∧
  xs = [.ref a, c] ∧ (∀ u, RelV c u → u = cv) ∧ PySem.W.kitOne K (.ref D) cv = some b ∧ Q (.bl b) H
theorem call_isX {X : Cx} {a : Addr} {cls : Value} {d : Option Addr} {oe : Obj} {pn : List (Addr × Obj)} (hz : Zc cls d oe) (hf : ∃ vs, oe.data = .fields vs) : CallR (X.suite a ((a, oe) :: pn)) (.builtin "isinstance") (rIsX X.K a cls d) := by
  intro pins s σ H xs us Q I r h
  obtain ⟨D, c, cv, b, rfl, C, hd, rfl, hcv, e, q⟩ := h
  cases r with
  | cons rx rr =>
    cases rr with
    | cons rt rr =>
      cases rr
      cases rx
      obtain rfl := hcv _ rt
      obtain ⟨hget, _⟩ := I.pin (a, oe) (List.mem_append_left _ List.mem_cons_self)
      obtain ⟨vs, hv⟩ := hf
      obtain ⟨od, J⟩ : ∃ od, PySem.W.InstAt s.heap a oe D od := by
        have hno : PySem.W.notCls oe = true := by unfold PySem.W.notCls; rw [hv] <;> rfl
        rcases hd with rfl | ⟨dd, fs, rfl, ea⟩
        · exact ⟨none, hget, hz.1, hno, by rw [hz.2]; trivial⟩
        · have hx : ObjOk X.prog X.w H s.heap dd (.xd fs) := I.hok dd _ ea
          obtain ⟨mA, hns, _⟩ := hx
          obtain ⟨od, ho, _⟩ := lookIn_ns hns
          exact ⟨some od, hget, hz.1, hno, by rw [hz.2]; exact ho⟩
      exact PySem.W.kia_one (Vf.kit_exc C) I.kIn J e (fun z => nomatch z) fun tk => ⟨.bl b, H, I.kept (t' := tk) fun _ _ z => z, rfl, q⟩
end L2
set_option Elab.async false
set_option linter.all false
set_option maxRecDepth 100000
set_option maxHeartbeats 4000000
namespace Vf
open PySem L2 PyProof.Rows
structure TxtTd (K : PySem.W.Frag) (mg : Str → Option Value) (C CT fT pR gR : Addr) (mc : Value) : Prop where
  bt : ErrT K mg "BadText" "line" CT fT
  mgShape : mg "Shape" = some (.ref C)
  cr : ClX.CRead K C mc
  cm : ClX.CMet K C mc "read" pR gR
  te : PySem.W.exmOne K (.ref CT) (.ref CT) = some true
section
variable {P : Program} {w : World} {K : PySem.W.Frag} {mg : Str → Option Value} {base : Heap}
def spToldS (K : PySem.W.Frag) (C : Addr) : Sp := fun vs H Q _ => ∃ text : Str, vs = [.str text] ∧ text.length ≤ 600 ∧ (textL (TL.tl text)).length ≤ 60 ∧
  (∀ i, readS (TL.tl text) = .bad i → ∀ H', Same H H' → Q (.int (i : Nat)) H') ∧ (∀ z gs es, readS (TL.tl text) = .shape z gs es → ∀ o H', Same H H' → MadeAt K C H' o (mkS z) gs es → Q (.ref o) H')
abbrev s__law_told : Stmt := top 29
abbrev N__law_told : List Str := ["_law_text", "_law_told_here", "e"]
abbrev P__law_told : List Str := ["_law_text"]
theorem sc__law_told : FnScope N__law_told P__law_told (defScope s__law_told) := ⟨rfl, rfl, rfl, by decide +kernel, rfl, by decide +kernel, by decide +kernel⟩

theorem ok_toldS {f C CT fT pR gR : Addr} {mc : Value} {fd : FuncData} (F : Fun K "_law_told" "_law_told" s__law_told f fd) (T : TxtTd K mg C CT fT pR gR mc) (GR : FnR P w K mg base (L2.CX P w) 6 gR (spRead K C CT)) : FnOk P w K mg base CX0 7 f fd P__law_told (spToldS K C) := by
  refine F.ok sc__law_told (fun vs H Q E h => ?_) (fun cdv A outer s H vs Q E hr h => ?_)
  · obtain ⟨text, rfl, _⟩ := h
    rfl
  · obtain ⟨text, rfl, hl, hl60, kb, ks⟩ := h
    refine ⟨_, pss_cons (ps_try_as (i := 2) (tb := fun W => tAsg (tCMethV C (spRead K C CT) (WE W) (tC (.ref C)) (tCons (tVar 0) tNil)) (gName 1)) (ts := fun a cls d => tRet (tXf a cls d CT "line" (tVar 2))) (Wout := fun _ _ _ _ => False) rfl rfl sc__law_told.nd rfl rfl ⟨rfl, by decide, Or.inl T.bt.g⟩ takes0
        (fun W pn xe tk _ => pss_one (ps_set (i := 1) sc__law_told.nd rfl (Or.inl rfl) (by exact (pe_cmethV (pe_glob (by rfl) T.mgShape (v := .ref C) rfl) T.cr T.cm GR (hr.mono (by decide)) (fun σ => passAt tk σ) (by exact (pa_cons (pv 0) pa_nil))))))
        (fun a oe cls d pn hz hf => pss_one (ps_ret (by exact (pe_xf T.bt.xf T.bt.nf hz hf (pv 2))))))
      (pss_one (ps_ret (pv 1))), ?_⟩
    refine ⟨rfl, _, rfl, text, rfl, hl, hl60, fun i hi d H' hd => ?_, fun z gs es hs o H' s hM => ?_⟩
    · refine ⟨true, T.te, fun _ a0 _ => ?_, fun q => Bool.noConfusion q⟩
      refine ⟨_, rfl, rfl, rfl, d, _, V.int i, rfl, hd.2.1, by simp [List.lookup], ?_⟩
      exact kb i hi H' hd.2.2
    · exact ⟨_, rfl, ks z gs es hs o H' s hM⟩
end
end Vf
set_option Elab.async false
set_option linter.all false
set_option maxRecDepth 100000
set_option maxHeartbeats 4000000
/-! a word many times -/
namespace Vf
open PySem L2 PyProof.Rows
def rMulS : R2 := fun x y H Q => ∃ z n, x = .str z ∧ y = .int n ∧ 0 ≤ n ∧ n ≤ 1000 ∧ z.length ≤ 1000 ∧ ∀ r : Str, TL.tl r = (List.replicate n.toNat (TL.tl z)).flatten → Q (.str r) H
theorem foldl_cps (l : List (Array Nat)) (a : Array Nat) : (l.foldl (· ++ ·) a).toList = a.toList ++ (l.map Array.toList).flatten := by
  induction l generalizing a with
  | nil => simp
  | cons b r ih => rw [List.foldl_cons, ih]; simp
theorem op_mul_str {X : Cx} : OpR X (binaryOp .Mult) rMulS := by
  intro pins s σ H x y v u Q I rx ry h
  obtain ⟨z, n, rfl, rfl, h0, h1, hz, q⟩ := h
  obtain ⟨t, rfl⟩ := rx
  obtain ⟨t', rfl⟩ := ry
  have hp : z.length * n.toNat ≤ 1000 * 1000 := Nat.mul_le_mul hz (by omega)
  refine PySem.P.mul_str ?_ (fun hn _ => ?_) (fun hn _ => ?_) ?_
  · rw [decide_eq_false (by omega), decide_eq_false (by omega)]; rfl
  · have : (1000 : Int) ≤ (2 ^ 63 - 1) / n := by
      rw [Int.le_ediv_iff_mul_le (by omega)]
      omega
    omega
  · exact decide_eq_false (Nat.not_lt.mpr (Nat.le_trans hp (by rw [sizeLine_eq]; decide)))
  · by_cases c : n < 1
    · rw [if_pos c]
      have e : n = 0 := by omega
      subst e
      exact ⟨by decide, .str Str.empty, H, I.tok _, ⟨_, rfl⟩, q _ rfl⟩
    · rw [if_neg c]
      by_cases c2 : (n == 1 || z.length == 0) = true
      · rw [if_pos c2]
        refine ⟨.str z, H, I, ⟨_, rfl⟩, q z ?_⟩
        rcases Bool.or_eq_true_iff.mp c2 with e | e
        · have e := eq_of_beq e
          subst e
          simp
        · have e := eq_of_beq e
          rw [TL.len_tl] at e
          have e2 : TL.tl z = [] := List.length_eq_zero_iff.mp e
          rw [e2]
          simp
      · rw [if_neg c2]
        have et : TL.tl (⟨(List.replicate n.toNat z.cps).foldl (· ++ ·) #[]⟩ : Str) = (List.replicate n.toNat (TL.tl z)).flatten := by
          show ((List.replicate n.toNat z.cps).foldl (· ++ ·) #[]).toList = _
          rw [foldl_cps, List.map_replicate]
          rfl
        refine ⟨?_, .str _, H, I.tok _, ⟨_, rfl⟩, q _ et⟩
        rw [TL.len_tl, et, List.length_flatten, List.map_replicate, List.sum_replicate_nat]
        refine Nat.le_trans ?_ (by rw [sizeLine_eq]; decide : 1000 * 1000 ≤ sizeLine)
        rw [← TL.len_tl, Nat.mul_comm]
        exact hp
/-! a word n times from a state -/
def wn (rs : List Row) (z y : List Nat) : Nat → Int → Int × Int
  | 0, s => (s, 0)
  | n + 1, s => ((walkR rs z (wn rs z y n s).1 y).1, (wn rs z y n s).2 + (walkR rs z (wn rs z y n s).1 y).2)
section
variable {rs : List Row} {z : List Nat}
theorem wn_add (y : List Nat) (a : Nat) (s : Int) : ∀ b, wn rs z y (a + b) s = ((wn rs z y b (wn rs z y a s).1).1, (wn rs z y a s).2 + (wn rs z y b (wn rs z y a s).1).2)
  | 0 => by simp [wn]
  | b + 1 => by
    have ih := wn_add y a s b
    show ((walkR rs z (wn rs z y (a + b) s).1 y).1, (wn rs z y (a + b) s).2 + (walkR rs z (wn rs z y (a + b) s).1 y).2) = _
    rw [ih]
    simp only [wn, Int.add_assoc]
theorem fold_walk (y : List Nat) : ∀ (s b : Int), y.foldl (stepR rs z) (s, b) = ((walkR rs z s y).1, b + (walkR rs z s y).2) := by
  induction y with
  | nil => intro s b; simp [walkR]
  | cons c r ih =>
    intro s b
    have e1 : stepR rs z (s, b) c = ((stepR rs z (s, 0) c).1, b + (stepR rs z (s, 0) c).2) := by simp [stepR]
    have e2 : walkR rs z s (c :: r) = ((walkR rs z (stepR rs z (s, 0) c).1 r).1, (stepR rs z (s, 0) c).2 + (walkR rs z (stepR rs z (s, 0) c).1 r).2) := by
      show r.foldl (stepR rs z) (stepR rs z (s, 0) c) = _
      have := ih (stepR rs z (s, 0) c).1 (stepR rs z (s, 0) c).2
      exact this
    rw [List.foldl_cons, e1, ih, e2]
    simp [Int.add_assoc]
theorem walk_append (x y : List Nat) (s : Int) : walkR rs z s (x ++ y) = ((walkR rs z (walkR rs z s x).1 y).1, (walkR rs z s x).2 + (walkR rs z (walkR rs z s x).1 y).2) := by
  show (x ++ y).foldl (stepR rs z) (s, 0) = _
  rw [List.foldl_append]
  exact fold_walk y (walkR rs z s x).1 (walkR rs z s x).2
theorem wn_one (y : List Nat) (s : Int) : wn rs z y 1 s = walkR rs z s y := by simp [wn]
theorem wn_flat (y : List Nat) (s : Int) : ∀ n, walkR rs z s (List.replicate n y).flatten = wn rs z y n s
  | 0 => rfl
  | n + 1 => by
    rw [List.replicate_succ', List.flatten_append, List.flatten_singleton, walk_append, wn_flat y s n]
    rfl
theorem wn_twice (y : List Nat) (s : Int) : ∀ n, wn rs z (y ++ y) n s = wn rs z y (n + n) s
  | 0 => rfl
  | n + 1 => by
    have e : n + 1 + (n + 1) = (n + n) + 1 + 1 := by omega
    rw [e]
    simp only [wn, wn_twice y s n, walk_append, Int.add_assoc]
theorem wn_rot (a b : List Nat) (s : Int) : ∀ n, wn rs z (a ++ b) (n + 1) s = ((walkR rs z (wn rs z (b ++ a) n (walkR rs z s a).1).1 b).1, (walkR rs z s a).2 + ((wn rs z (b ++ a) n (walkR rs z s a).1).2 + (walkR rs z (wn rs z (b ++ a) n (walkR rs z s a).1).1 b).2))
  | 0 => by simp [wn, walk_append]
  | n + 1 => by
    have ih := wn_rot a b s n
    show ((walkR rs z (wn rs z (a ++ b) (n + 1) s).1 (a ++ b)).1, (wn rs z (a ++ b) (n + 1) s).2 + (walkR rs z (wn rs z (a ++ b) (n + 1) s).1 (a ++ b)).2) = _
    rw [ih]
    simp only [wn, walk_append, Int.add_assoc]
theorem wn_ok {m : Nat} {y : List Nat} {s : Int} (g : GoodS m rs) (hz : z.length = m) (h0 : 0 ≤ s) (h1 : s < rs.length) (hy : ∀ c ∈ y, c ∈ z) : ∀ n, 0 ≤ (wn rs z y n s).1 ∧ (wn rs z y n s).1 < rs.length
  | 0 => ⟨h0, h1⟩
  | n + 1 => by
    have ih := wn_ok (y := y) g hz h0 h1 hy n
    have := walkR_ok (y := y) g hz ih.1 ih.2 hy y.length (Nat.le_refl _)
    rw [List.take_length] at this
    exact this
theorem cyc_mul {y : List Nat} {T c : Int} {p : Nat} (h : wn rs z y p T = (T, c)) : ∀ q : Nat, wn rs z y (q * p) T = (T, q * c)
  | 0 => by simp [wn]
  | q + 1 => by
    rw [Nat.succ_mul, wn_add, cyc_mul h q]
    simp only [h]
    congr 1
    rw [Int.natCast_add, Int.add_mul, Int.natCast_one, Int.one_mul]
theorem cyc_any {y : List Nat} {T c : Int} {p : Nat} (h : wn rs z y p T = (T, c)) (r : Nat) : wn rs z y p (wn rs z y r T).1 = ((wn rs z y r T).1, c) := by
  have h1 := wn_add (rs := rs) (z := z) y r T p
  have h2 := wn_add (rs := rs) (z := z) y p T r
  rw [Nat.add_comm p r, h1] at h2
  simp only [h] at h2
  have e1 := congrArg Prod.fst h2
  have e2 := congrArg Prod.snd h2
  simp only at e1 e2
  refine Prod.ext e1 ?_
  show (wn rs z y p (wn rs z y r T).1).2 = c
  omega
/-- what the last lines of a walk in rounds tell -/
theorem loop_end {y : List Nat} {s : Int} {f k q r : Nat} (hf : f < k) (h : (wn rs z y f s).1 = (wn rs z y k s).1) :
    wn rs z y (k + q * (k - f) + r) s = ((wn rs z y (f + r) s).1, (wn rs z y k s).2 + q * ((wn rs z y k s).2 - (wn rs z y f s).2) + (wn rs z y (f + r) s).2 - (wn rs z y f s).2) := by
  have hk : f + (k - f) = k := by omega
  have h1 := wn_add (rs := rs) (z := z) y f s (k - f)
  rw [hk] at h1
  have hc : wn rs z y (k - f) (wn rs z y f s).1 = ((wn rs z y f s).1, (wn rs z y k s).2 - (wn rs z y f s).2) := by
    have e1 := congrArg Prod.fst h1
    have e2 := congrArg Prod.snd h1
    simp only at e1 e2
    refine Prod.ext (by rw [← e1, h]) ?_
    show (wn rs z y (k - f) (wn rs z y f s).1).2 = _
    omega
  have h2 := cyc_mul hc q
  have h3 := wn_add (rs := rs) (z := z) y f s r
  rw [Nat.add_assoc, wn_add, ← h, wn_add, h2, h3]
  refine Prod.ext rfl ?_
  show (wn rs z y k s).2 + (q * ((wn rs z y k s).2 - (wn rs z y f s).2) + (wn rs z y r (wn rs z y f s).1).2) = _
  simp only
  omega
/-- blocks, one behind the other -/
def eff (rs : List Row) (z : List Nat) (bs : List (List Nat × Nat)) (s : Int) : Int × Int := bs.foldl (fun a b => ((wn rs z b.1 b.2 a.1).1, a.2 + (wn rs z b.1 b.2 a.1).2)) (s, 0)
theorem eff_fold (bs : List (List Nat × Nat)) : ∀ (s b : Int), bs.foldl (fun a b => ((wn rs z b.1 b.2 a.1).1, a.2 + (wn rs z b.1 b.2 a.1).2)) (s, b) = ((eff rs z bs s).1, b + (eff rs z bs s).2) := by
  induction bs with
  | nil => intro s b; simp [eff]
  | cons x r ih =>
    intro s b
    have e2 : eff rs z (x :: r) s = ((eff rs z r (wn rs z x.1 x.2 s).1).1, (wn rs z x.1 x.2 s).2 + (eff rs z r (wn rs z x.1 x.2 s).1).2) := by
      show r.foldl _ ((wn rs z x.1 x.2 s).1, 0 + (wn rs z x.1 x.2 s).2) = _
      rw [Int.zero_add]
      exact ih _ _
    rw [List.foldl_cons, e2]
    have := ih (wn rs z x.1 x.2 s).1 (b + (wn rs z x.1 x.2 s).2)
    rw [this]
    simp [Int.add_assoc]
theorem eff_cons (x : List Nat × Nat) (r : List (List Nat × Nat)) (s : Int) : eff rs z (x :: r) s = ((eff rs z r (wn rs z x.1 x.2 s).1).1, (wn rs z x.1 x.2 s).2 + (eff rs z r (wn rs z x.1 x.2 s).1).2) := by
  show r.foldl _ ((wn rs z x.1 x.2 s).1, 0 + (wn rs z x.1 x.2 s).2) = _
  rw [Int.zero_add]
  exact eff_fold r _ _
theorem eff_append (x y : List (List Nat × Nat)) (s : Int) : eff rs z (x ++ y) s = ((eff rs z y (eff rs z x s).1).1, (eff rs z x s).2 + (eff rs z y (eff rs z x s).1).2) := by
  show (x ++ y).foldl _ (s, 0) = _
  rw [List.foldl_append]
  exact eff_fold y (eff rs z x s).1 (eff rs z x s).2
theorem eff_one (y : List Nat) (n : Nat) (s : Int) : eff rs z [(y, n)] s = wn rs z y n s := by
  rw [eff_cons]
  simp [eff]
end
end Vf
set_option Elab.async false
set_option linter.all false
set_option maxRecDepth 100000
set_option maxHeartbeats 4000000
namespace Vf
open PySem L2 PyProof.Rows
/-- the words that are whole behind y, and the one that is still open -/
def whole (y : List Nat) : List (List Nat) := (TL.spl [32] 0 [] y).dropLast.filter fun w => decide (w ≠ [])
def opn (y : List Nat) : List Nat := (TL.spl [32] 0 [] y).getLast (spl_ne [32] 0 [] y)
theorem words_open (y : List Nat) : wordsOf y = whole y ++ [opn y].filter fun w => decide (w ≠ []) := by
  unfold wordsOf whole opn
  rw [← List.filter_append, List.dropLast_concat_getLast]
theorem open_sp (y : List Nat) : whole (y ++ [32]) = wordsOf y ∧ opn (y ++ [32]) = [] := by
  have h := spl_snoc y [] 32
  rw [if_pos rfl] at h
  unfold whole opn wordsOf
  simp only [h, List.dropLast_concat, List.getLast_concat, and_self]
theorem open_ch (y : List Nat) {c : Nat} (hc : c ≠ 32) : whole (y ++ [c]) = whole y ∧ opn (y ++ [c]) = opn y ++ [c] := by
  have h := spl_snoc y [] c
  rw [if_neg hc] at h
  unfold whole opn
  simp only [h, List.dropLast_concat, List.getLast_concat, and_self]
def LikeW (a b : List Nat) : Prop := whole a = whole b ∧ opn a = opn b
theorem LikeW.words {a b : List Nat} (h : LikeW a b) : wordsOf a = wordsOf b := by rw [words_open, words_open, h.1, h.2]
theorem LikeW.ch {a b : List Nat} (h : LikeW a b) {c : Nat} (hc : c ≠ 32) : LikeW (a ++ [c]) (b ++ [c]) := by
  obtain ⟨a1, a2⟩ := open_ch a hc
  obtain ⟨b1, b2⟩ := open_ch b hc
  exact ⟨by rw [a1, b1, h.1], by rw [a2, b2, h.2]⟩
theorem LikeW.sp {a b : List Nat} (h : LikeW a b) : LikeW (a ++ [32]) (b ++ [32]) := by
  obtain ⟨a1, a2⟩ := open_sp a
  obtain ⟨b1, b2⟩ := open_sp b
  exact ⟨by rw [a1, b1, h.words], by rw [a2, b2]⟩
/-- one more space behind a space -/
theorem LikeW.sp2 (a : List Nat) : LikeW (a ++ [32] ++ [32]) (a ++ [32]) := by
  obtain ⟨a1, a2⟩ := open_sp a
  obtain ⟨b1, b2⟩ := open_sp (a ++ [32])
  refine ⟨?_, by rw [b2, a2]⟩
  rw [b1, words_open, a1, a2]
  simp
theorem LikeW.sps (a : List Nat) : ∀ k : Nat, LikeW (a ++ [32] ++ List.replicate k 32) (a ++ [32])
  | 0 => by rw [List.replicate_zero, List.append_nil]; exact ⟨rfl, rfl⟩
  | k + 1 => by
    have ih := LikeW.sps a k
    have h1 := ih.sp
    have h2 := LikeW.sp2 a
    rw [List.replicate_succ', ← List.append_assoc]
    exact ⟨h1.1.trans h2.1, h1.2.trans h2.2⟩
theorem words_sps (a : List Nat) : ∀ k : Nat, wordsOf (a ++ List.replicate k 32) = wordsOf a
  | 0 => by rw [List.replicate_zero, List.append_nil]
  | k + 1 => by
    rw [List.replicate_succ', ← List.append_assoc, words_open, (open_sp _).1, (open_sp _).2, words_sps a k]
    simp
theorem like_nil (k : Nat) : LikeW (List.replicate k 32) [] := by
  cases k with
  | zero => exact ⟨rfl, rfl⟩
  | succ k =>
    have h := LikeW.sps [] k
    have e : ([] : List Nat) ++ [32] ++ List.replicate k 32 = List.replicate (k + 1) 32 := by rw [List.replicate_succ]; rfl
    rw [e] at h
    have h2 := open_sp []
    refine ⟨h.1.trans ?_, h.2.trans ?_⟩
    · rw [h2.1]; rfl
    · rw [h2.2]; rfl
theorem rep32 (k : Nat) : (List.replicate k (TL.tl " ")).flatten = List.replicate k 32 := by
  have e : TL.tl (" " : Str) = [32] := by decide +kernel
  rw [e]
  induction k with
  | zero => rfl
  | succ k ih => rw [List.replicate_succ, List.flatten_cons, ih, List.replicate_succ]; rfl
section
variable {P : Program} {w : World} {K : PySem.W.Frag} {mg : Str → Option Value} {base : Heap}
def spLoose : Sp := fun vs H Q _ => ∃ (p c : Addr) (x : Str) (n : Nat), vs = [.ref p, .str x] ∧ Pen H p c n ∧ n ≤ 2 ^ 29 ∧ x.length ≤ 200 ∧
  ∀ (y : Str) (H' : Hp), wordsOf (TL.tl y) = wordsOf (TL.tl x) → y.length ≤ 3 * x.length + 2 → (∀ d ∈ TL.tl y, d ∈ TL.tl x ∨ d = 32) → Pen H' p c (n + 202) → Kp p H H' → Q (.str y) H'
abbrev s__law_loose : Stmt := top 26
abbrev N__law_loose : List Str := ["_law_pen_here", "_law_line", "_law_found", "_law_sign"]
abbrev P__law_loose : List Str := ["_law_pen_here", "_law_line"]
theorem sc__law_loose : FnScope N__law_loose P__law_loose (defScope s__law_loose) := ⟨rfl, rfl, rfl, by decide +kernel, rfl, by decide +kernel, by decide +kernel⟩

theorem ok_loose {f fD : Addr} {fd fdD : FuncData} (F : Fun K "_law_loose" "_law_loose" s__law_loose f fd) (T : TxtD K mg fD) (FD : Fun K "_law_draw" "_law_draw" s__law_draw fD fdD) (b_law_draw : Binds K fdD P__law_draw []) : FnOk P w K mg base CX0 2 f fd P__law_loose spLoose := by
  have G_law_draw : FnOk P w K mg base CX0 1 fD fdD P__law_draw spDraw := ok_draw FD T.toTxtA
  refine F.ok sc__law_loose (fun vs H Q E h => ?_) (fun cdv A outer s H vs Q E hr h => ?_)
  · obtain ⟨p, c, x, n, rfl, _⟩ := h
    rfl
  · obtain ⟨p, c, x, n, rfl, hp, hn, hl, k⟩ := h
    have hu := hu_of hr
    refine ⟨_, (pss_cons (ps_set (i := 2) sc__law_loose.nd rfl (Or.inl rfl) (pe_op op_mul_str pe_str (pe_call G_law_draw (hr.mono (by decide)) (by rfl) T.m_law_draw T.k_law_draw b_law_draw .nil pass0 (pa_cons (pv 0) (pa_cons pe_int pa_nil)))))
      (pss_cons (ps_for PassesOwn.never rfl (pi_str (pv 1)) (pg_name (i := 3) sc__law_loose.nd rfl (Or.inl rfl)) (pss_one (ps_set (i := 2) sc__law_loose.nd rfl (Or.inl rfl) (pe_op op_add_str (pv 2) (pe_ifExp (pt_cmpR op_eq (pv 3) pe_str (nomark _)) (pe_op op_mul_str pe_str (pe_op op_add pe_int (pe_call G_law_draw (hr.mono (by decide)) (by rfl) T.m_law_draw T.k_law_draw b_law_draw .nil pass0 (pa_cons (pv 0) (pa_cons pe_int pa_nil))))) (pv 3))))))
      (pss_one (ps_ret (pe_op op_add_str (pv 2) (pe_op op_mul_str pe_str (pe_call G_law_draw (hr.mono (by decide)) (by rfl) T.m_law_draw T.k_law_draw b_law_draw .nil pass0 (pa_cons (pv 0) (pa_cons pe_int pa_nil))))))))), ?_⟩
    have hlx : x.length = (TL.tl x).length := TL.len_tl x
    have one : (" " : Str).length = 1 := by decide +kernel
    refine ⟨_, rfl, p, c, 2, n, rfl, hp, by omega, by decide, by decide, fun d H1 d0 d1 hp1 k1 => ⟨" ", d, rfl, rfl, d0, by omega, by rw [one]; decide, fun r0 hr0 => ?_⟩⟩
    rw [rep32] at hr0
    refine ⟨_, rfl, x, rfl, for_it walk_strS (fun i σ H2 => ∃ (y : Str) (v3 : Option V), σ = [some (.ref p), some (.str x), some (.str y), v3] ∧ LikeW (TL.tl y) ((TL.tl x).take i) ∧ (TL.tl y).length ≤ 3 * i + 1 ∧ (∀ e ∈ TL.tl y, e ∈ TL.tl x ∨ e = 32) ∧ Pen H2 p c (n + 1 + i) ∧ Kp p H H2)
      ⟨r0, none, rfl, by rw [hr0]; exact like_nil _, by rw [hr0, List.length_replicate]; omega, (fun e he => by rw [hr0] at he; exact Or.inr (List.eq_of_mem_replicate he)), hp1, k1⟩ (fun _ _ _ _ _ => trivial) ?_ ?_⟩
    · rintro i v σ H3 H2 hi ⟨y, v3, rfl, hw, hyl, hys, hp2, k2⟩ ⟨rfl, cc, hcc, rfl⟩
      obtain ⟨hlt, hce⟩ := List.getElem?_eq_some_iff.mp hcc
      have e1 : (TL.tl x).take (i + 1) = (TL.tl x).take i ++ [cc] := by rw [take_more hlt, hce]
      have hcx : cc ∈ TL.tl x := by rw [← hce]; exact List.getElem_mem hlt
      have hyn : y.length = (TL.tl y).length := TL.len_tl y
      have e32 : sg cc = " " ↔ cc = 32 := ⟨fun q => sg_inj (q : sg cc = sg 32), fun q => by rw [q]; rfl⟩
      refine ⟨_, rfl, _, rfl, rfl, _, rfl, ite2 (fun c1 => ?_) (fun c1 => ?_)⟩
      · have c1 : cc = 32 := e32.mp (by simpa using c1)
        refine ⟨_, rfl, p, c, 3, _, rfl, hp2, by omega, by decide, by decide, fun d' H4 d0' d1' hp4 k4 => ⟨_, _, rfl, rfl, " ", 1 + d', rfl, rfl, by omega, by omega, by rw [one]; decide, fun r1 hr1 => ?_⟩⟩
        rw [rep32, show (1 + d').toNat = d'.toNat + 1 by omega] at hr1
        have er : TL.tl (y ++ r1) = TL.tl y ++ [32] ++ List.replicate d'.toNat 32 := by rw [TL.tl_append, hr1, List.replicate_succ, List.append_assoc]; rfl
        have hr1l : r1.length = d'.toNat + 1 := by rw [TL.len_tl, hr1, List.length_replicate]
        refine ⟨y, r1, rfl, rfl, Nat.le_of_lt (small1000 (by omega)), y ++ r1, _, rfl, ?_, ?_, ?_, hp4.mono (by omega), k2.trans k4⟩
        · rw [er, e1, c1]
          have h1 := LikeW.sps (TL.tl y) d'.toNat
          have h2 := hw.sp
          exact ⟨h1.1.trans h2.1, h1.2.trans h2.2⟩
        · rw [er, List.length_append, List.length_append, List.length_replicate, List.length_singleton]; omega
        · intro e he
          rw [er] at he
          rcases List.mem_append.mp he with h | h
          · rcases List.mem_append.mp h with h | h
            · exact hys e h
            · exact Or.inr (List.mem_singleton.mp h)
          · exact Or.inr (List.eq_of_mem_replicate h)
      · have c1 : cc ≠ 32 := fun q => by rw [e32.mpr q] at c1; simp at c1
        have er : TL.tl (y ++ sg cc) = TL.tl y ++ [cc] := by rw [TL.tl_append]; rfl
        refine ⟨_, rfl, y, sg cc, rfl, rfl, ?_, y ++ sg cc, _, rfl, ?_, ?_, ?_, hp2.mono (by omega), k2⟩
        · show y.length + 1 ≤ sizeLine
          exact Nat.le_of_lt (small1000 (by omega))
        · rw [er, e1]; exact hw.ch c1
        · rw [er, List.length_append, List.length_singleton]; omega
        · intro e he
          rw [er] at he
          rcases List.mem_append.mp he with h | h
          · exact hys e h
          · rw [List.mem_singleton.mp h]; exact Or.inl hcx
    · rintro σ H2 ⟨y, v3, rfl, hw, hyl, hys, hp2, k2⟩
      rw [hlx, List.take_length] at hw
      rw [hlx] at hyl hp2
      have hyn : y.length = (TL.tl y).length := TL.len_tl y
      refine ⟨_, rfl, _, rfl, p, c, 2, _, rfl, hp2, by omega, by decide, by decide, fun d' H3 d0' d1' hp3 k3 => ⟨" ", d', rfl, rfl, d0', by omega, by rw [one]; decide, fun r2 hr2 => ?_⟩⟩
      rw [rep32] at hr2
      have hr2l : r2.length = d'.toNat := by rw [TL.len_tl, hr2, List.length_replicate]
      refine ⟨y, r2, rfl, rfl, Nat.le_of_lt (small1000 (by omega)), k (y ++ r2) H3 ?_ ?_ ?_ (hp3.mono (by omega)) (k2.trans k3)⟩
      · rw [TL.tl_append, hr2, words_sps]
        exact hw.words
      · rw [TL.len_tl, TL.tl_append, List.length_append, hr2, List.length_replicate]; omega
      · intro e he
        rw [TL.tl_append, hr2] at he
        rcases List.mem_append.mp he with h | h
        · exact hys e h
        · exact Or.inr (List.eq_of_mem_replicate h)
end
end Vf
set_option Elab.async false
set_option linter.all false
set_option maxRecDepth 100000
set_option maxHeartbeats 4000000
namespace Vf
open PySem L2 PyProof.Rows
theorem sum_le : ∀ {ys : List Str} {B : Nat}, (∀ y ∈ ys, y.length ≤ B) → (ys.map (·.length)).sum ≤ ys.length * B
  | [], _, _ => Nat.zero_le _
  | y :: ys, B, h => by
    have h1 := h y List.mem_cons_self
    have h2 := sum_le (ys := ys) (B := B) fun x hx => h x (List.mem_cons_of_mem _ hx)
    rw [List.map_cons, List.sum_cons, List.length_cons, Nat.add_mul]
    omega
theorem join_le {sep : Str} {ys : List Str} {B : Nat} (h : ∀ y ∈ ys, y.length ≤ B) : (Txt.join sep ys).length ≤ ys.length * (B + sep.length) := by
  rw [TL.join_eq]
  refine Nat.le_trans (StrLaws.join_length_le sep ys) ?_
  rw [Nat.mul_add]
  exact Nat.add_le_add_right (sum_le h) _
theorem putK_all {kvs : List (Key × V)} {k : Key} {v z : V} (h : ∀ p ∈ kvs, p.2 = z) (hv : v = z) : ∀ p ∈ putK kvs k v, p.2 = z := by
  intro p hp
  unfold putK at hp
  split at hp
  · obtain ⟨q, hq, rfl⟩ := List.mem_map.mp hp
    split
    · exact hv
    · exact h q hq
  · rcases List.mem_append.mp hp with q | q
    · exact h p q
    · rw [List.mem_singleton.mp q]; exact hv
theorem int_small : ∀ n : Nat, n < 1000 → (Str.ofString (toString (n : Int))).length ≤ 3 := by decide +kernel
section
variable {P : Program} {w : World} {K : PySem.W.Frag} {mg : Str → Option Value} {base : Heap}
def rowS (row : List Int) : Str := Txt.join " " (row.map fun g => Str.ofString (toString g))
def lineS (es : List Int) (i : Nat) (row : List Int) : Str := rowS row ++ (if (i : Int) ∈ es then " good" else "")
def strS (z : Str) (gs : List (List Int)) (es : List Int) : Str := Txt.join "\n" ((Str.empty ++ Str.ofString "shape " ++ z) :: gs.mapIdx (lineS es))
def spStrS (K : PySem.W.Frag) (C : Addr) : Sp := fun vs H Q _ => ∃ (o : Addr) (z : Str) (gs : List (List Int)) (es : List Int), vs = [.ref o] ∧ ShapeAt K C H o z gs es ∧ GoodRows z.length gs ∧ z.length ≤ 26 ∧ gs.length ≤ 100 ∧ es.length ≤ 100 ∧ ∀ (H' : Hp), Same H H' → Q (.str (strS z gs es)) H'
abbrev s_Shape___str__ : Stmt := inClass (top 12) 3
abbrev N_Shape___str__ : List Str := ["self", "lines", "state", "marks", "row", "goals", "goal"]
abbrev P_Shape___str__ : List Str := ["self"]
theorem sc_Shape___str__ : FnScope N_Shape___str__ P_Shape___str__ (defScope s_Shape___str__) := ⟨rfl, rfl, rfl, by decide +kernel, rfl, by decide +kernel, by decide +kernel⟩

theorem ok_strS {f C fCG fCD B CB fB' : Addr} {fd : FuncData} (F : Fun K "__str__" "Shape.__str__" s_Shape___str__ f fd) (T : TxtS K mg C fCG fCD B CB fB') (Ts : mg "str" = none) : FnOk P w K mg base CX0 1 f fd P_Shape___str__ (spStrS K C) := by
  refine F.ok sc_Shape___str__ (fun vs H Q E h => ?_) (fun cdv A outer s H vs Q E hr h => ?_)
  · obtain ⟨o, z, gs, es, rfl, _⟩ := h
    rfl
  · obtain ⟨o, z, gs, es, rfl, ⟨dx, R, Ev, ho, hR, hE⟩, hg, hz, hl, hel, k⟩ := h
    have hu := hu_of hr
    refine ⟨_, (pss_cons (ps_set (i := 1) sc_Shape___str__.nd rfl (Or.inl rfl) (pe_lst (pa_cons (pe_joined (.cons pe_str (.cons (pe_fmt (pe_fld (pv 0) rfl)) .nil))) pa_nil)))
      (pss_cons (ps_setDc (i := 3) (own := [("state", 2)]) (g := gName 2) (by rfl) sc_Shape___str__.nd rfl rfl (sw_dc rfl rfl rfl (by decide +kernel)) (pi_seq (K := K) rfl (pe_fld (pv 0) rfl)) (blkOk_by (own := [("state", 2)]) (N := N_Shape___str__) (sc := defScope s_Shape___str__) (by decide +kernel)) (fun _ _ _ _ _ => pg_name (i := 2) sc_Shape___str__.nd rfl (Or.inl rfl)) (fun _ _ _ _ _ => pts_nil) (fun _ _ _ _ _ => pv 2) (fun _ _ _ _ _ => pe_str))
      (pss_cons (ps_for PassesOwn.never rfl (pi_enumX (by rfl) T.enumerate (pa_cons (pe_fld (pv 0) rfl) pa_nil)) (pg_tup (by rfl) (pgs_cons (pg_name (i := 2) sc_Shape___str__.nd rfl (Or.inl rfl)) (pgs_cons (pg_name (i := 4) sc_Shape___str__.nd rfl (Or.inl rfl)) pgs_nil))) (pss_cons (ps_set (i := 5) sc_Shape___str__.nd rfl (Or.inl rfl) (pe_join pe_str (pe_lc (own := [("goal", 6)]) (g := gName 6) (by rfl) sc_Shape___str__.nd (pi_seq (K := K) rfl (pv 4)) (blkOk_by (own := [("goal", 6)]) (N := N_Shape___str__) (sc := defScope s_Shape___str__) (by decide +kernel)) (fun _ _ _ _ _ => pg_name (i := 6) sc_Shape___str__.nd rfl (Or.inl rfl)) (fun _ _ _ _ _ => pts_nil) (fun _ _ _ _ _ => (pe_callTy call_str_int (by rfl) Ts boot_str (pa_cons (pv 6) pa_nil))))))
      (pss_one (ps_expr (pe_bm PySem.F.plainAttrs_list PySem.F.slot_list_append PySem.F.type_list_append mt_append (pv 1) (pa_cons (pe_op op_add_str (pv 5) (pe_dget2 (Nat.lt_of_le_of_lt (Nat.add_le_add_left (by decide) _) hr.units) (pv 3) (pv 2) pe_str ⟨rfl, rfl, rfl, rfl⟩)) pa_nil))))))
      (pss_one (ps_ret (pe_join pe_str (pv 1))))))), ?_⟩
    have hzs : z.length ≤ sizeLine := Nat.le_of_lt (small1000 (by omega))
    have hl0 : (Str.empty ++ Str.ofString "shape " ++ z).length ≤ 200 := by
      rw [Str.length_append]
      have : (Str.empty ++ Str.ofString "shape ").length = 6 := by decide +kernel
      omega
    refine ⟨_, rfl, (by decide +kernel), _, rfl, o, C, dx, _, _, rfl, ho, T.cl, T.nL, sf_letters _ _ _, Or.inl ⟨z, rfl, hzs, _, rfl, Nat.le_of_lt (small1000 (by omega)), by show 1 ≤ sizeLine; decide, fun D hD => ?_⟩⟩
    have s1 : Same H (L2.upd H D (.lst [V.str (Str.empty ++ Str.ofString "shape " ++ z)])) := same_new hD
    have hD1 : (L2.upd H D (.lst [V.str (Str.empty ++ Str.ofString "shape " ++ z)])) D = some (.lst [V.str (Str.empty ++ Str.ofString "shape " ++ z)]) := upd_same
    change tSeq _ _ _ _ (L2.upd H D (.lst [V.str (Str.empty ++ Str.ofString "shape " ++ z)]))
    generalize L2.upd H D (.lst [V.str (Str.empty ++ Str.ofString "shape " ++ z)]) = H1 at s1 hD1 ⊢
    obtain ⟨ga, ges, rfl, hE1, hE2⟩ := hE.tupE
    obtain rfl := dpAll_intsE hE2
    obtain ⟨ra, xs, rfl, hR1, hR2⟩ := hR.tupE
    have hxl : xs.length = gs.length := by rw [hR2.length, List.length_map]
    refine ⟨_, rfl, o, C, dx, _, _, rfl, s1 _ _ ho, T.cl, T.nG, sf_good _ _ _, ga, _, rfl, Or.inr ((Kl.same s1).seqT hE1), fun J hJ M hM => dc_it hJ (fun i H2 => ∃ kvs : List (Key × V), H2 M = some (.dK kvs) ∧ kvs.length ≤ i ∧ (∀ p ∈ kvs, p.2 = V.str " good") ∧ Same H1 H2 ∧ ∀ k : Int, valV kvs (Sum.inl k : Key) = if k ∈ es.take i then some (V.str " good") else none)
      ⟨[], upd_same, Nat.le_refl _, (fun p hp => nomatch hp), same_new hM, fun k => rfl⟩ (fun i H2 _ ⟨_, _, _, _, s2, _⟩ => GSq.same s2) ?_ ?_⟩
    · rintro i x H2' H2 hi ⟨kvs, hM2, hk, hv, s2, hval⟩ ⟨rfl, hx⟩
      rw [List.length_map] at hi
      obtain rfl : V.int (es[i]) = x := by
        rw [List.getElem?_map, List.getElem?_eq_getElem hi] at hx
        exact Option.some.inj hx
      refine ⟨rfl, ?_⟩
      refine lcYes ?_
      refine ⟨_, rfl, kvs, .inl es[i], rfl, hM2, small1000 (by omega), _, upd_same, ?_, ?_, s2.put hM, fun k => ?_⟩
      · have := length_putK kvs (Sum.inl es[i] : Key) (V.str " good")
        omega
      · exact putK_all hv rfl
      · rw [valV_put, take_more hi, hval k]
        by_cases e : k = es[i]
        · rw [if_pos (by rw [e]), if_pos (by rw [e]; exact List.mem_append_right _ List.mem_cons_self)]
        · rw [if_neg (fun q => e (Sum.inl.inj q))]
          have e2 : k ∈ es.take i ++ [es[i]] ↔ k ∈ es.take i := by rw [List.mem_append, List.mem_singleton]; exact ⟨fun q => q.resolve_right e, Or.inl⟩
          by_cases e3 : k ∈ es.take i
          · rw [if_pos e3, if_pos (e2.mpr e3)]
          · rw [if_neg e3, if_neg fun q => e3 (e2.mp q)]
    · rintro H2 ⟨kvs, hM2, hk, hv, s2, hval⟩
      rw [List.length_map, List.take_length] at hval
      have s3 := s1.trans s2
      have nMD : M ≠ D := (ne_of_none hD1 hM).symm
      have hM0 : H M = none := s1.free hM
      refine ⟨_, rfl, o, C, dx, _, _, rfl, s3 _ _ ho, T.cl, T.nR, sf_rows _ _ _, ra, xs, rfl, Or.inr ((Kl.same s3).seqT hR1), fun J2 hJ2 => for_it hJ2 (fun i σ H3 => ∃ (v2 v4 v5 v6 : Option V) (ls : List Str), σ = [some (.ref o), some (.ref D), v2, some (.ref M), v4, v5, v6] ∧ H3 D = some (.lst (ls.map V.str)) ∧ ls = (Str.empty ++ Str.ofString "shape " ++ z) :: (gs.take i).mapIdx (lineS es) ∧ ls.length ≤ i + 1 ∧ (∀ y ∈ ls, y.length ≤ 200) ∧ H3 M = some (.dK kvs) ∧ Same H H3 ∧ ∀ b u, H2 b = some u → b ≠ D → H3 b = some u)
        ⟨none, none, none, none, [_], rfl, s2 _ _ hD1, rfl, Nat.le_refl _, (fun y hy => by rw [List.mem_singleton.mp hy]; exact hl0), hM2, s3, fun b u e _ => e⟩ (fun i σ H3 _ ⟨_, _, _, _, _, _, _, _, _, _, _, s4, s4'⟩ => ⟨fun h => ?_, fun _ => (Kl.same s4).seqT hR1⟩) ?_ ?_⟩
      · rcases h with (h | ⟨o', h⟩) | h
        · refine Or.inl (Or.inl (s4' _ _ h fun q => ?_))
          rw [q, s2 _ _ hD1] at h
          cases h
          obtain ⟨v, hv', hrow⟩ := hR2.get (i := 0) (d := intsT (gs[0]'hg.2)) (by rw [List.getElem?_map, List.getElem?_eq_getElem hg.2]; rfl)
          obtain ⟨w5, ts, rfl, _, _⟩ := hrow.tupE
          cases hv'
        · refine Or.inl (Or.inr ⟨o', s4' _ _ h fun q => ?_⟩)
          rw [q, s2 _ _ hD1] at h
          cases h
        · exact Or.inr h
      · rintro i x σ H3 H4 hi ⟨v2, v4, v5, v6, ls, rfl, hD3, hls, hll, hly, hM3, s4, s4'⟩ ⟨q, b, rfl, hq, rfl, hb⟩
        have hi' : i < gs.length := by omega
        obtain ⟨v, hv', hrow⟩ := hR2.get (i := i) (d := intsT gs[i]) (by rw [List.getElem?_map, List.getElem?_eq_getElem hi']; rfl)
        obtain rfl : b = v := Option.some.inj (hb.symm.trans hv')
        obtain ⟨w5, ts, rfl, hw1, hw2⟩ := hrow.tupE
        obtain rfl := dpAll_intsE hw2
        obtain ⟨grl, grg⟩ := good_row hg hi'
        have s5 : Same H (L2.upd H3 q (.tup [.int i, .ref w5])) := s4.trans (same_new hq)
        have s5' : Same H3 (L2.upd H3 q (.tup [.int i, .ref w5])) := same_new hq
        have hD5 := (same_new (o := .tup [.int i, .ref w5]) hq) _ _ hD3
        have hM5 := (same_new (o := .tup [.int i, .ref w5]) hq) _ _ hM3
        refine ⟨q, _, rfl, SqT.of upd_same, rfl, _, _, rfl, _, _, rfl, rfl, ?_⟩
        generalize L2.upd H3 q (.tup [.int i, .ref w5]) = H5 at s5 s5' hD5 hM5
        refine ⟨⟨_, rfl⟩, _, rfl, w5, _, rfl, Or.inr ((Kl.same s5).seqT hw1), fun J3 hJ3 E3 hE3 => lc_it hJ3 (fun j H6 => ∃ zs : List Str, H6 E3 = some (.lst (zs.map V.str)) ∧ zs = (gs[i].take j).map (fun g => Str.ofString (toString g)) ∧ zs.length ≤ j ∧ (∀ y ∈ zs, y.length ≤ 3) ∧ Same H5 H6)
          ⟨[], upd_same, rfl, Nat.le_refl _, (fun y hy => nomatch hy), same_new hE3⟩ (fun j H6 _ ⟨_, _, _, _, _, s6⟩ => GSq.same s6) ?_ ?_⟩
        · rintro j x H6' H6 hj ⟨zs, hE6, hzs6, hzl, hzy, s6⟩ ⟨rfl, hx⟩
          rw [List.length_map] at hj
          obtain rfl : V.int (gs[i][j]) = x := by
            rw [List.getElem?_map, List.getElem?_eq_getElem hj] at hx
            exact Option.some.inj hx
          obtain ⟨g0, g1⟩ := grg _ (List.getElem_mem hj)
          refine ⟨rfl, ?_⟩
          refine lcYes ?_
          obtain ⟨n, hn⟩ : ∃ n : Nat, gs[i][j] = (n : Int) := ⟨gs[i][j].toNat, by omega⟩
          refine ⟨_, rfl, _, rfl, ?_, _, hE6, ?_, zs ++ [Str.ofString (toString gs[i][j])], ?_, by rw [take_more hj, List.map_append, hzs6]; rfl, ?_, ?_, s6.put hE3⟩
          · rw [hn, Int.natAbs_natCast]
            exact Nat.lt_of_le_of_lt (Nat.log2_le_self n) (by omega)
          · rw [List.length_map]; exact small1000 (by omega)
          · rw [upd_same, List.map_append]; rfl
          · rw [List.length_append, List.length_singleton]; omega
          · intro y hy
            rcases List.mem_append.mp hy with h | h
            · exact hzy y h
            · rw [List.mem_singleton.mp h, hn]
              exact int_small n (by omega)
        · rintro H6 ⟨zs, hE6, hzs6, hzl, hzy, s6⟩
          rw [List.length_map, grl] at hzl
          have hsum := sum_le hzy
          have hjl := join_le (sep := " ") hzy
          have e1 : (" " : Str).length = 1 := by decide +kernel
          rw [e1] at hjl
          refine ⟨_, E3, zs, rfl, rfl, Or.inl (SqL.of hE6), by rw [e1]; omega, ?_⟩
          have hD6 := s6 _ _ hD5
          have hM6 := s6 _ _ hM5
          have s7 := s5.trans s6
          obtain ⟨y, hy, hye, hyl⟩ : ∃ y : Str, (valV kvs (Sum.inl (i : Int) : Key)).getD (.str "") = .str y ∧ y = (if (i : Int) ∈ es then " good" else "") ∧ y.length ≤ 5 := by
            rw [hval i]
            by_cases e : (i : Int) ∈ es
            · rw [if_pos e, if_pos e]; exact ⟨" good", rfl, rfl, by decide +kernel⟩
            · rw [if_neg e, if_neg e]; exact ⟨"", rfl, rfl, by decide +kernel⟩
          refine ⟨_, rfl, Or.inl ⟨rfl, _, SqL.of hD6⟩, _, rfl, _, rfl, M, rfl, Or.inl ⟨_, Or.inl hM6⟩, _, rfl, _, DGet.k (k := Sum.inl (i : Int)) hM6, ?_⟩
          · rw [hy]
            refine ⟨_, _, rfl, rfl, ?_, ?_⟩
            · show (Txt.join " " zs).length + y.length ≤ sizeLine
              exact Nat.le_of_lt (small1000 (by omega))
            · refine ⟨D, _, _, rfl, rfl, hD6, by rw [List.length_map]; exact small1000 (by omega), _, _, _, _, ls ++ [_], rfl, by rw [upd_same, List.map_append]; rfl, ?_, ?_, ?_, ?_, s7.put hD, fun b u e n => by rw [upd_ne n]; exact s6 _ _ (s5' _ _ (s4' b u e n))⟩
              · rw [take_more hi', List.mapIdx_concat, hls, List.length_take, Nat.min_eq_left (by omega), hzs6, hye]
                rw [List.length_map, List.take_length]
                rfl
              · rw [List.length_append, List.length_singleton]; omega
              · intro y' hy'
                rcases List.mem_append.mp hy' with h | h
                · exact hly y' h
                · rw [List.mem_singleton.mp h, Str.length_append]
                  omega
              · rw [upd_ne nMD]; exact hM6
      · rintro σ H3 ⟨v2, v4, v5, v6, ls, rfl, hD3, hls, hll, hly, hM3, s4, s4'⟩
        have hsum := sum_le hly
        have e1 : ("\n" : Str).length = 1 := by decide +kernel
        refine ⟨⟨_, rfl⟩, _, rfl, _, D, ls, rfl, rfl, Or.inl (SqL.of hD3), by rw [e1]; omega, ?_⟩
        rw [hxl, List.take_length] at hls
        rw [hls]
        exact k _ s4
end
end Vf
set_option Elab.async false
set_option linter.all false
set_option maxRecDepth 100000
set_option maxHeartbeats 4000000
namespace Vf
open PySem L2 PyProof.Rows
theorem num_read : ∀ k : Nat, k < 100 → numW (TL.numL k) = some k ∧ TL.numL k ≠ goodW ∧ TL.numL k ≠ [] ∧ (32 : Nat) ∉ TL.numL k ∧ (10 : Nat) ∉ TL.numL k := by decide +kernel
theorem joinL_snoc (s : Nat) : ∀ {a : List (List Nat)} {b : List Nat}, a ≠ [] → TL.joinL [s] (a ++ [b]) = TL.joinL [s] a ++ [s] ++ b
  | [], _, h => absurd rfl h
  | [x], b, _ => by show x ++ ([s] ++ b) = x ++ [s] ++ b; rw [List.append_assoc]
  | x :: y :: r, b, _ => by
    have ih := joinL_snoc s (a := y :: r) (b := b) (List.cons_ne_nil _ _)
    show x ++ ([s] ++ TL.joinL [s] ((y :: r) ++ [b])) = x ++ ([s] ++ TL.joinL [s] (y :: r)) ++ [s] ++ b
    rw [ih]
    simp only [List.append_assoc]
/-- the words of the line of a state -/
def rowWs (row : List Int) : List (List Nat) := row.map fun g => TL.numL g.toNat
def lineWs (es : List Int) (i : Nat) (row : List Int) : List (List Nat) := rowWs row ++ (if (i : Int) ∈ es then [goodW] else [])
theorem tl_rowS {row : List Int} (h : ∀ g ∈ row, 0 ≤ g) : TL.tl (rowS row) = TL.joinL [32] (rowWs row) := by
  unfold rowS rowWs
  rw [TL.join_eq, TL.tl_join, List.map_map]
  have e : TL.tl (" " : Str) = [32] := by decide +kernel
  rw [e]
  refine congrArg _ (List.map_congr_left fun g hg => ?_)
  have h0 := h g hg
  show TL.tl (Str.ofString (toString g)) = _
  have := TL.tl_num g.toNat
  rw [Int.toNat_of_nonneg h0] at this
  exact this
theorem tl_lineS {es : List Int} {i : Nat} {row : List Int} (h : ∀ g ∈ row, 0 ≤ g) (hne : row ≠ []) : TL.tl (lineS es i row) = TL.joinL [32] (lineWs es i row) := by
  have hr : rowWs row ≠ [] := fun q => hne (List.map_eq_nil_iff.mp q)
  unfold lineS lineWs
  rw [TL.tl_append, tl_rowS h]
  by_cases e : (i : Int) ∈ es
  · rw [if_pos e, if_pos e, joinL_snoc 32 hr, List.append_assoc]
    refine congrArg _ ?_
    decide +kernel
  · rw [if_neg e, if_neg e, List.append_nil]
    show _ ++ TL.tl ("" : Str) = _
    rw [show TL.tl ("" : Str) = [] by decide +kernel, List.append_nil]
theorem words_join {W : List (List Nat)} (hne : W ≠ []) (h : ∀ w ∈ W, 32 ∉ w ∧ w ≠ []) : wordsOf (TL.joinL [32] W) = W := by
  unfold wordsOf
  rw [TL.spl_join (s := 32) (S := []) hne fun w hw => (h w hw).1]
  exact List.filter_eq_self.mpr fun w hw => decide_eq_true (h w hw).2
theorem mem_joinL {s c : Nat} : ∀ {W : List (List Nat)}, c ∈ TL.joinL [s] W → c = s ∨ ∃ w ∈ W, c ∈ w
  | [], h => nomatch h
  | [p], h => Or.inr ⟨p, List.mem_cons_self, h⟩
  | p :: q :: r, h => by
    have h : c ∈ p ++ ([s] ++ TL.joinL [s] (q :: r)) := h
    rcases List.mem_append.mp h with h | h
    · exact Or.inr ⟨p, List.mem_cons_self, h⟩
    · rcases List.mem_append.mp h with h | h
      · exact Or.inl (List.mem_singleton.mp h)
      · rcases mem_joinL h with h | ⟨w, hw, h⟩
        · exact Or.inl h
        · exact Or.inr ⟨w, List.mem_cons_of_mem _ hw, h⟩
theorem goodW_ok : 32 ∉ goodW ∧ goodW ≠ [] ∧ 10 ∉ goodW := by decide +kernel
theorem lineWs_ok {es : List Int} {i : Nat} {row : List Int} (h : ∀ g ∈ row, 0 ≤ g ∧ g < 100) : ∀ w ∈ lineWs es i row, 32 ∉ w ∧ w ≠ [] ∧ 10 ∉ w := by
  intro w hw
  rcases List.mem_append.mp hw with q | q
  · obtain ⟨g, hg, rfl⟩ := List.mem_map.mp q
    obtain ⟨g0, g1⟩ := h g hg
    obtain ⟨_, _, a, b, c⟩ := num_read g.toNat (by omega)
    exact ⟨b, a, c⟩
  · by_cases e : (i : Int) ∈ es
    · rw [if_pos e] at q; rw [List.mem_singleton.mp q]; exact goodW_ok
    · rw [if_neg e] at q; cases q
theorem rowW_line {es : List Int} {i m n : Nat} {row : List Int} (hm : row.length = m) (hm1 : 1 ≤ m) (h : ∀ g ∈ row, 0 ≤ g ∧ g < n) (hn : n ≤ 100) : marked (lineWs es i row) = decide ((i : Int) ∈ es) ∧ rowW m n (lineWs es i row) = some (row.map Int.toNat) := by
  have hne : rowWs row ≠ [] := fun q => by rw [List.map_eq_nil_iff.mp q] at hm; simp at hm; omega
  have hb : bare (lineWs es i row) = rowWs row ∧ marked (lineWs es i row) = decide ((i : Int) ∈ es) := by
    unfold bare marked lineWs
    by_cases e : (i : Int) ∈ es
    · rw [if_pos e, List.getLast?_concat]
      simp [e, List.dropLast_concat]
    · rw [if_neg e, List.append_nil]
      have hlast : (rowWs row).getLast? ≠ some goodW := fun q => by
        have hmem := List.mem_of_getLast? q
        obtain ⟨g, hg, e2⟩ := List.mem_map.mp hmem
        obtain ⟨g0, g1⟩ := h g hg
        exact (num_read g.toNat (by omega)).2.1 e2
      simp [e, hlast]
  refine ⟨hb.2, ?_⟩
  unfold rowW
  rw [hb.1]
  unfold goalsW
  have hval : ∀ g ∈ row, numW (TL.numL g.toNat) = some g.toNat := fun g hg => (num_read g.toNat (by have := h g hg; omega)).1
  rw [if_pos]
  · refine congrArg some ?_
    unfold rowWs
    rw [List.map_map]
    refine List.map_congr_left fun g hg => ?_
    show valN (TL.numL g.toNat) = _
    unfold valN
    rw [hval g hg]; rfl
  · refine ⟨by unfold rowWs; rw [List.length_map]; exact hm, List.all_eq_true.mpr fun w hw => ?_⟩
    obtain ⟨g, hg, rfl⟩ := List.mem_map.mp hw
    unfold okN
    rw [hval g hg]
    have := h g hg
    exact decide_eq_true (by omega)
theorem cons_eq {α : Type} {a b : α} {l m : List α} (h : a = b) (h2 : l = m) : a :: l = b :: m := by rw [h, h2]
theorem read_str {z : Str} {gs : List (List Int)} {es : List Int} (hz : okZ (TL.tl z) = true) (hg : GoodRows z.length gs) (hl : gs.length ≤ 60) (hes : ∀ e ∈ es, 0 ≤ e ∧ e < (gs.length : Nat)) :
    ∃ es', readS (TL.tl (strS z gs es)) = .shape (TL.tl z) gs es' ∧ ∀ x, x ∈ es' ↔ x ∈ es := by
  have hzz := hz
  unfold okZ at hzz
  rw [Bool.and_eq_true, Bool.and_eq_true, Bool.and_eq_true, decide_eq_true_eq, decide_eq_true_eq, List.all_eq_true] at hzz
  obtain ⟨⟨z1, z3⟩, hza, _⟩ := hzz
  have hzn : z.length = (TL.tl z).length := TL.len_tl z
  have hzc : ∀ c ∈ TL.tl z, 97 ≤ c ∧ c ≤ 122 := fun c hc => by
    have := hza c hc
    rwa [Bool.and_eq_true, decide_eq_true_eq, decide_eq_true_eq] at this
  have hrow : ∀ r ∈ gs, r.length = z.length ∧ ∀ g ∈ r, 0 ≤ g ∧ g < gs.length := fun r hr => by
    obtain ⟨j, hj, rfl⟩ := List.getElem_of_mem hr
    exact good_row hg hj
  have hshape : 32 ∉ TL.tl "shape" ∧ TL.tl "shape" ≠ [] ∧ 10 ∉ TL.tl "shape" := by decide +kernel
  have hh : TL.tl (Str.empty ++ Str.ofString "shape " ++ z) = TL.joinL [32] [TL.tl "shape", TL.tl z] := by
    rw [TL.tl_append]
    show _ = TL.tl "shape" ++ ([32] ++ TL.tl z)
    rw [← List.append_assoc]
    refine congrArg (· ++ TL.tl z) ?_
    decide +kernel
  have hline : ∀ (i : Nat) (hi : i < gs.length), TL.tl (lineS es i gs[i]) = TL.joinL [32] (lineWs es i gs[i]) ∧ (∀ w ∈ lineWs es i gs[i], 32 ∉ w ∧ w ≠ [] ∧ 10 ∉ w) ∧ lineWs es i gs[i] ≠ [] := fun i hi => by
    obtain ⟨r1, r2⟩ := hrow _ (List.getElem_mem hi)
    have hne : gs[i] ≠ [] := fun q => by rw [q] at r1; simp at r1; omega
    refine ⟨tl_lineS (fun g hg => (r2 g hg).1) hne, lineWs_ok fun g hg => by have := r2 g hg; omega, fun q => ?_⟩
    have := (List.append_eq_nil_iff.mp q).1
    exact hne (List.map_eq_nil_iff.mp this)
  have htext : TL.tl (strS z gs es) = TL.joinL [10] (TL.tl (Str.empty ++ Str.ofString "shape " ++ z) :: (gs.mapIdx (lineS es)).map TL.tl) := by
    unfold strS
    rw [TL.join_eq, TL.tl_join]
    rfl
  have hno : ∀ p ∈ TL.tl (Str.empty ++ Str.ofString "shape " ++ z) :: (gs.mapIdx (lineS es)).map TL.tl, 10 ∉ p := fun p hp q => by
    rcases List.mem_cons.mp hp with e | e
    · rw [e, hh] at q
      rcases mem_joinL q with q | ⟨w, hw, q⟩
      · cases q
      · rcases List.mem_cons.mp hw with e | e
        · rw [e] at q; exact hshape.2.2 q
        · rw [List.mem_singleton.mp e] at q
          have := hzc _ q
          omega
    · obtain ⟨l, hl', rfl⟩ := List.mem_map.mp e
      obtain ⟨i, hi, rfl⟩ := List.getElem_of_mem hl'
      rw [List.getElem_mapIdx] at q
      have hi' : i < gs.length := by rw [List.length_mapIdx] at hi; exact hi
      obtain ⟨a1, a2, _⟩ := hline i hi'
      rw [a1] at q
      rcases mem_joinL q with q | ⟨w, hw, q⟩
      · cases q
      · exact (a2 w hw).2.2 q
  have hlines : linesOf (TL.tl (strS z gs es)) = TL.tl (Str.empty ++ Str.ofString "shape " ++ z) :: (gs.mapIdx (lineS es)).map TL.tl := by
    unfold linesOf
    rw [htext]
    exact TL.spl_join (s := 10) (S := []) (List.cons_ne_nil _ _) hno
  have hL : textL (TL.tl (strS z gs es)) = [TL.tl "shape", TL.tl z] :: gs.mapIdx (lineWs es) := by
    unfold textL
    rw [hlines, List.map_cons]
    refine cons_eq ?_ ?_
    · rw [hh]
      refine words_join (List.cons_ne_nil _ _) fun w hw => ?_
      rcases List.mem_cons.mp hw with e | e
      · rw [e]; exact ⟨hshape.1, hshape.2.1⟩
      · rw [List.mem_singleton.mp e]
        refine ⟨fun q => by have := hzc _ q; omega, fun q => by rw [q] at z1; simp at z1⟩
    · rw [List.map_map]
      refine List.ext_getElem (by rw [List.length_map, List.length_mapIdx, List.length_mapIdx]) fun i h1 h2 => ?_
      rw [List.length_mapIdx] at h2
      rw [List.getElem_map, List.getElem_mapIdx, List.getElem_mapIdx]
      obtain ⟨a1, a2, a3⟩ := hline i h2
      show wordsOf (TL.tl (lineS es i gs[i])) = _
      rw [a1]
      exact words_join a3 fun w hw => ⟨(a2 w hw).1, (a2 w hw).2.1⟩
  have hrw : ∀ (i : Nat) (hi : i < gs.length), marked (lineWs es i gs[i]) = decide ((i : Int) ∈ es) ∧ rowW (TL.tl z).length gs.length (lineWs es i gs[i]) = some (gs[i].map Int.toNat) := fun i hi => by
    obtain ⟨r1, r2⟩ := hrow _ (List.getElem_mem hi)
    exact rowW_line (r1.trans hzn) z1 r2 (by omega)
  refine ⟨goods (gs.mapIdx (lineWs es)), ?_, fun x => ?_⟩
  · unfold readS
    rw [hL, headZ_two, if_pos ⟨rfl, hz⟩]
    show (if _ then _ else _) = _
    have hgp := hg.2
    rw [if_neg (by rw [List.length_cons, List.length_mapIdx]; omega), List.tail_cons, List.length_mapIdx]
    have hfi : ((gs.mapIdx (lineWs es)).findIdx? fun ws => (rowW (TL.tl z).length gs.length ws).isNone) = none := List.findIdx?_eq_none_iff.mpr fun ws hws => by
      obtain ⟨i, hi, rfl⟩ := List.getElem_of_mem hws
      rw [List.getElem_mapIdx]
      rw [List.length_mapIdx] at hi
      rw [(hrw i hi).2]; rfl
    rw [hfi]
    show ROut.shape _ _ _ = _
    refine congrArg (fun l => ROut.shape (TL.tl z) l (goods (gs.mapIdx (lineWs es)))) ?_
    refine List.ext_getElem (by rw [List.length_map, List.length_mapIdx]) fun i h1 h2 => ?_
    rw [List.getElem_map, List.getElem_mapIdx]
    unfold rowI
    rw [(hrw i h2).2]
    obtain ⟨r1, r2⟩ := hrow _ (List.getElem_mem h2)
    show (gs[i].map Int.toNat).map Int.ofNat = gs[i]
    rw [List.map_map]
    refine (List.map_congr_left fun g hg => ?_).trans (List.map_id _)
    exact Int.toNat_of_nonneg (r2 g hg).1
  · unfold goods
    rw [List.mem_map]
    constructor
    · rintro ⟨i, hi, rfl⟩
      obtain ⟨h1, h2⟩ := List.mem_filter.mp hi
      have h1 := List.mem_range.mp h1
      rw [List.length_mapIdx] at h1
      rw [List.getD_eq_getElem?_getD, List.getElem?_eq_getElem (by rw [List.length_mapIdx]; exact h1), Option.getD_some, List.getElem_mapIdx, (hrw i h1).1, decide_eq_true_eq] at h2
      exact h2
    · intro hx
      obtain ⟨x0, x1⟩ := hes x hx
      have hi : x.toNat < gs.length := by omega
      refine ⟨x.toNat, List.mem_filter.mpr ⟨List.mem_range.mpr (by rw [List.length_mapIdx]; exact hi), ?_⟩, Int.toNat_of_nonneg x0⟩
      rw [List.getD_eq_getElem?_getD, List.getElem?_eq_getElem (by rw [List.length_mapIdx]; exact hi), Option.getD_some, List.getElem_mapIdx, (hrw _ hi).1, decide_eq_true_eq, Int.toNat_of_nonneg x0]
      exact hx
end Vf
set_option Elab.async false
set_option linter.all false
set_option maxRecDepth 100000
set_option maxHeartbeats 4000000
namespace Vf
open PySem L2 PyProof.Rows
theorem two_of {W : List (List Nat)} (h : W.length = 2) : ∃ a b, W = [a, b] := by
  rcases W with _ | ⟨a, _ | ⟨b, _ | ⟨c, r⟩⟩⟩
  · cases h
  · cases h
  · exact ⟨a, b, rfl⟩
  · simp at h
theorem spl_mem (S : List Nat) : ∀ (k : Nat) (acc l : List Nat), ∀ p ∈ TL.spl S k acc l, ∀ c ∈ p, c ∈ acc ∨ c ∈ l
  | k, acc, [], p, h, c, hc => by
    rw [TL.spl_nil, List.mem_singleton] at h
    rw [h] at hc
    exact Or.inl hc
  | 0, acc, d :: r, p, h, c, hc => by
    have e : TL.spl S 0 acc (d :: r) = if TL.pre S (d :: r) = true then acc :: TL.spl S (S.length - 1) [] r else TL.spl S 0 (acc ++ [d]) r := rfl
    rw [e] at h
    split at h
    · rcases List.mem_cons.mp h with q | q
      · rw [q] at hc; exact Or.inl hc
      · rcases spl_mem S _ [] r p q c hc with z | z
        · cases z
        · exact Or.inr (List.mem_cons_of_mem _ z)
    · rcases spl_mem S 0 _ r p h c hc with z | z
      · rcases List.mem_append.mp z with z | z
        · exact Or.inl z
        · rw [List.mem_singleton.mp z]; exact Or.inr List.mem_cons_self
      · exact Or.inr (List.mem_cons_of_mem _ z)
  | k + 1, acc, d :: r, p, h, c, hc => by
    rcases spl_mem S k acc r p h c hc with z | z
    · exact Or.inl z
    · exact Or.inr (List.mem_cons_of_mem _ z)
theorem textL_ch {t : List Nat} (h : chOk t) : ∀ W ∈ textL t, ∀ u ∈ W, chOk u := fun W hW u hu c hc => by
  obtain ⟨l, hl, rfl⟩ := List.mem_map.mp hW
  rcases spl_mem [32] 0 [] l u (List.mem_filter.mp hu).1 c hc with z | z
  · cases z
  · rcases spl_mem [10] 0 [] t l hl c z with z | z
    · cases z
    · exact h c z
theorem g_name {i : Nat} {v : V} {σ : L2.St} {H : Hp} {R : L2.St → Hp → Prop} (h : R (σ.set i (some v)) H) : gName i v σ H R := h
theorem ifS_restS {t : TT} {b u : TS} {D : Ends} {σ : L2.St} {H : Hp} {R : L2.St → Hp → Prop} (rest : ∀ σ' H', R σ' H' → u D σ' H') (h : (∀ σ' H', R σ' H' → u D σ' H') → t σ H (fun c H1 => if c = true then b { D with nx := u D } σ H1 else u D σ H1)) : tSeq (tIfS t b tNext) u D σ H := h rest
theorem shaped_mks {ws : List (List Nat)} (h : ∀ w ∈ ws, chOk w) : SeqAt.shaped (.list ((ws.map mkS).map PyData.str)) = true := by
  refine shaped_of (n := 1) ?_ (by rw [PyData.depth, List.map_map]; have := depth_all (n := 0) (f := PyData.str ∘ mkS) (fun _ => by simp [PyData.depth]) ws; omega) (by decide)
  rw [PyData.canLay0, canLayAll_strs', List.all_map, List.all_eq_true]
  intro w hw
  show PyData.strOk (mkS w) = true
  unfold PyData.strOk
  rw [← Array.all_toList]
  show ((TL.tl (mkS w)).all fun c => decide (c < 0x110000)) = true
  rw [tl_mkS, List.all_eq_true]
  exact fun c hc => decide_eq_true (h w hw c hc)
theorem in_non (n : Nat) (ws : List (List Nat)) : inV .non (ws.map (numX n)) = !ws.all (okN n) := by
  induction ws with
  | nil => rfl
  | cons w ws ih =>
    unfold inV at ih ⊢
    rw [List.map_cons, List.any_cons, List.all_cons, ih, Bool.not_and]
    congr 1
    unfold numX
    cases okN n w <;> rfl
theorem flat_numX (n : Nat) (ws : List (List Nat)) : (ws.map (numX n)).all flatV = true := by
  rw [List.all_map, List.all_eq_true]
  intro w _
  show flatV (numX n w) = true
  unfold numX
  split <;> rfl
theorem numX_ok {n : Nat} {ws : List (List Nat)} (h : ws.all (okN n) = true) : ws.map (numX n) = ((ws.map valN).map Int.ofNat).map V.int := by
  rw [List.map_map, List.map_map]
  refine List.map_congr_left fun w hw => ?_
  unfold numX
  rw [if_pos (List.all_eq_true.mp h w hw)]
  rfl
structure TxtLr (K : PySem.W.Frag) (mg : Str → Option Value) (C fW fN fA : Addr) : Prop extends TxtA K mg where
  mgShape : mg "Shape" = some (.ref C)
  m_law_words : mg "_law_words" = some (.ref fW)
  k_law_words : PySem.W.keepIn K (.ref fW) = true
  m_law_number : mg "_law_number" = some (.ref fN)
  k_law_number : PySem.W.keepIn K (.ref fN) = true
  m_law_are_values : mg "_law_are_values" = some (.ref fA)
  k_law_are_values : PySem.W.keepIn K (.ref fA) = true
section
variable {P : Program} {w : World} {K : PySem.W.Frag} {mg : Str → Option Value} {base : Heap}
def spLawR (K : PySem.W.Frag) (C : Addr) : Sp := fun vs H Q _ => ∃ text : Str, vs = [.str text] ∧ text.length ≤ 600 ∧ (textL (TL.tl text)).length ≤ 60 ∧ chOk (TL.tl text) ∧
  (∀ i, readS (TL.tl text) = .bad i → ∀ H', Same H H' → Q (.int (i : Nat)) H') ∧ (∀ z gs es, readS (TL.tl text) = .shape z gs es → ∀ o H', Same H H' → MadeAt K C H' o (mkS z) gs es → Q (.ref o) H')
abbrev s__law_read : Stmt := top 28
abbrev N__law_read : List Str := ["_law_text", "_law_lines", "_law_first", "_law_rows", "_law_good", "_law_k", "_law_words_here", "_law_row", "_law_word"]
abbrev P__law_read : List Str := ["_law_text"]
theorem sc__law_read : FnScope N__law_read P__law_read (defScope s__law_read) := ⟨rfl, rfl, rfl, by decide +kernel, rfl, by decide +kernel, by decide +kernel⟩

theorem ok_lawR {f fI C CB fW fN fA : Addr} {fd fdI fdW fdN fdA : FuncData} (F : Fun K "_law_read" "_law_read" s__law_read f fd) (T : TxtLr K mg C fW fN fA)
    (G_law_words : FnOk P w K mg base CX0 1 fW fdW P__law_words (spWords K)) (b_law_words : Binds K fdW P__law_words []) (G_law_number : FnOk P w K mg base CX0 1 fN fdN P__law_number spNumL) (b_law_number : Binds K fdN P__law_number [])
    (G_law_are_values : FnOk P w K mg base CX0 1 fA fdA P__law_are_values spAreL) (b_law_are_values : Binds K fdA P__law_are_values [])
    (MShape : Mk K C fI) (GShape : FnOk P w K mg base (L2.CX P w) 4 fI fdI P_Shape___init__ (spInitS K C CB)) (bShape : Binds K fdI P_Shape___init__ []) : FnOk P w K mg base (L2.CX P w) 6 f fd P__law_read (spLawR K C) := by
  refine F.okX sc__law_read (fun vs H Q E h => ?_) (fun cdv A outer s H vs Q E hr h => ?_)
  · obtain ⟨text, rfl, _⟩ := h
    rfl
  · obtain ⟨text, rfl, hl, hl60, hch, kb, ks⟩ := h
    have hu := hu_of hr
    have passL : Passes (L2.CX P w) (cxOf (L2.CX P w) P w K mg base N__law_read "_law_read" (defScope s__law_read) f cdv A outer s H E) E := passes_call (takes_of rfl rfl rfl rfl) (fun _ _ _ _ h => h)
    refine ⟨_, (pss_cons (ps_set (i := 1) sc__law_read.nd rfl (Or.inr rfl) (pe_split (pv 0) pe_str))
      (pss_cons (ps_par3 (i := 2) (j := 3) (l := 4) rfl sc__law_read.nd rfl rfl rfl (by decide) (by decide) (by decide) rfl rfl rfl (pa_cons (pe_call G_law_words (hr.mono (by decide)) (by rfl) T.m_law_words T.k_law_words b_law_words .nil pass0 (pa_cons (pe_ix ix_list (pv 1) pe_int (fun _ _ => rfl)) pa_nil)) (pa_cons (pe_lst pa_nil) (pa_cons (pe_lst pa_nil) pa_nil))) (by rfl))
      (pss_cons (ps_if (PW.pt (pw_or (pt_cmpR op_ne (pe_callB call_len (by rfl) T.len PySem.boot_len (pa_cons (pv 2) pa_nil)) pe_int (nomark _)) (pw_or (pt_cmpR op_ne (pe_ix ix_list (pv 2) pe_int (fun _ _ => rfl)) pe_str (nomark _)) (pw_or1 (pt_not (pt_val (pe_call G_law_are_values (hr.mono (by decide)) (by rfl) T.m_law_are_values T.k_law_are_values b_law_are_values .nil pass0 (pa_cons (pe_ix ix_list (pv 2) pe_int (fun _ _ => rfl)) pa_nil)))))))) (pss_one (ps_ret pe_int)) pss_nil)
      (pss_cons (ps_if (pt_cmpR op_eq (pe_callB call_len (by rfl) T.len PySem.boot_len (pa_cons (pv 1) pa_nil)) pe_int (nomark _)) (pss_one (ps_ret pe_int)) pss_nil)
      (pss_cons (ps_for (passes_of rfl) rfl (pi_range2 (by rfl) T.range (pa_cons pe_int (pa_cons (pe_callB call_len (by rfl) T.len PySem.boot_len (pa_cons (pv 1) pa_nil)) pa_nil))) (pg_name (i := 5) sc__law_read.nd rfl (Or.inl rfl)) (pss_cons (ps_set (i := 6) sc__law_read.nd rfl (Or.inl rfl) (pe_call G_law_words (hr.mono (by decide)) (by rfl) T.m_law_words T.k_law_words b_law_words .nil pass0 (pa_cons (pe_ix ix_list (pv 1) (pv 5) (fun _ _ => rfl)) pa_nil)))
      (pss_cons (ps_if (PW.pt (pw_and (pt_cmpR (op_neD hr.units) (pv 6) (pe_lst pa_nil) (nomark _)) (pw_and1 (pt_cmpR op_eq (pe_ix ix_list (pv 6) (pe_un un_neg pe_int) (fun _ _ => rfl)) pe_str (nomark _))))) (pss_cons (ps_set (i := 6) sc__law_read.nd rfl (Or.inl rfl) (pe_slice sl_list (pv 6) po_none (po_some (pe_un un_neg pe_int))))
      (pss_one (ps_expr (pe_bm PySem.F.plainAttrs_list PySem.F.slot_list_append PySem.F.type_list_append mt_append (pv 4) (pa_cons (pe_op op_sub (pv 5) pe_int) pa_nil))))) pss_nil)
      (pss_cons (ps_setLc (i := 7) (own := [("_law_word", 8)]) (g := gName 8) (by rfl) sc__law_read.nd rfl rfl (sw_true rfl rfl rfl (by decide +kernel)) (pi_seq (K := K) rfl (pv 6)) (blkOk_by (own := [("_law_word", 8)]) (N := N__law_read) (sc := defScope s__law_read) (by decide +kernel)) (fun _ _ _ _ _ => pg_name (i := 8) sc__law_read.nd rfl (Or.inl rfl)) (fun _ _ _ _ _ => pts_nil) (fun _ _ _ _ _ => (pe_call G_law_number (hr.mono (by decide)) (by rfl) T.m_law_number T.k_law_number b_law_number .nil pass0 (pa_cons (pv 8) (pa_cons (pe_op op_sub (pe_callB (call_lenK (K := K) rfl) (by rfl) T.len PySem.boot_len (pa_cons (pv 1) pa_nil)) pe_int) pa_nil)))))
      (pss_cons (ps_if (PW.pt (pw_or (pt_cmpR op_ne (pe_callB call_len (by rfl) T.len PySem.boot_len (pa_cons (pv 7) pa_nil)) (pe_callB call_len (by rfl) T.len PySem.boot_len (pa_cons (pe_ix ix_list (pv 2) pe_int (fun _ _ => rfl)) pa_nil)) (nomark _)) (pw_or1 (pt_cmpR op_in_seq pe_non (pv 7) (by rfl))))) (pss_one (ps_ret (pe_op op_add (pv 5) pe_int))) pss_nil)
      (pss_one (ps_expr (pe_bm PySem.F.plainAttrs_list PySem.F.slot_list_append PySem.F.type_list_append mt_append (pv 3) (pa_cons (pv 7) pa_nil)))))))))
      (pss_one (ps_ret (pe_make MShape GShape (hr.mono (by decide)) (by rfl) T.mgShape bShape .nil passL (pa_cons (pe_ix ix_list (pv 2) pe_int (fun _ _ => rfl)) (pa_cons (pv 3) (pa_cons (pv 4) pa_nil))))))))))), ?_⟩
    have hxs : text.length + 2 ≤ sizeLine := Nat.le_of_lt (small1000 (by omega))
    have hpl : ∀ p ∈ linesOf (TL.tl text), p.length ≤ 600 := fun p hp => by
      have := spl_len [10] 0 [] (TL.tl text) p hp
      rw [List.length_nil, ← TL.len_tl] at this
      omega
    refine ⟨_, rfl, ⟨_, rfl⟩, text, "\n", rfl, rfl, by decide +kernel, hxs, fun p hp => ?_⟩
    rw [split_nl]
    have s0 : Same H (L2.upd H p (.lst (((linesOf (TL.tl text)).map mkS).map V.str))) := same_new hp
    have hp0 : (L2.upd H p (.lst (((linesOf (TL.tl text)).map mkS).map V.str))) p = some (.lst (((linesOf (TL.tl text)).map mkS).map V.str)) := upd_same
    change tSeq _ _ _ _ (L2.upd H p (.lst (((linesOf (TL.tl text)).map mkS).map V.str)))
    generalize L2.upd H p (.lst (((linesOf (TL.tl text)).map mkS).map V.str)) = H0 at s0 hp0 ⊢
    obtain ⟨l0, ll, hll⟩ : ∃ l0 ll, linesOf (TL.tl text) = l0 :: ll := by
      cases e : linesOf (TL.tl text) with
      | nil => exact absurd e (spl_ne [10] 0 [] _)
      | cons a b => exact ⟨a, b, rfl⟩
    have hL : textL (TL.tl text) = wordsOf l0 :: ll.map wordsOf := by unfold textL; rw [hll]; rfl
    have h0l : l0.length ≤ 600 := hpl l0 (by rw [hll]; exact List.mem_cons_self)
    have hsm := textL_small (t := TL.tl text) (by rw [← TL.len_tl]; exact hl)
    rw [hL] at hsm
    refine ⟨_, rfl, p, _, 0, .str (mkS l0), rfl, rfl, SqL.of hp0, at_of' (show (0 : Int) = ((0 : Nat) : Int) from rfl) (by rw [hll]; rfl), mkS l0, rfl, by rw [TL.len_tl, tl_mkS]; exact h0l, fun r H1 s1 hrn hr => ⟨by show 0 ≤ sizeLine; decide, fun D hD => ⟨by show 0 ≤ sizeLine; decide, fun G hG => ⟨_, _, _, rfl, ?_⟩⟩⟩⟩
    rw [tl_mkS] at hr
    have sH : Same H (L2.upd (L2.upd H1 D (.lst [])) G (.lst [])) := ((s0.trans s1).trans (same_new hD)).trans (same_new hG)
    have hD2 : (L2.upd (L2.upd H1 D (.lst [])) G (.lst [])) D = some (.lst []) := same_new hG _ _ upd_same
    have hG2 : (L2.upd (L2.upd H1 D (.lst [])) G (.lst [])) G = some (.lst []) := upd_same
    have hr2 : (L2.upd (L2.upd H1 D (.lst [])) G (.lst [])) r = some (.lst ((wordsOf l0).map wordV)) := ((same_new hD).trans (same_new hG)) _ _ hr
    have hp2 : (L2.upd (L2.upd H1 D (.lst [])) G (.lst [])) p = some (.lst (((linesOf (TL.tl text)).map mkS).map V.str)) := (((s1.trans (same_new hD)).trans (same_new hG))) _ _ hp0
    have nGD : G ≠ D := (ne_of_none (upd_same (H := H1) (a := D) (o := .lst [])) hG).symm
    have hD0 : H D = none := (s0.trans s1).free hD
    have hG0 : H G = none := (s0.trans s1).free (by rw [upd_ne nGD] at hG; exact hG)
    have npD : p ≠ D := ne_of_none (s1 _ _ hp0) hD
    have nrD : r ≠ D := ne_of_none hr hD
    have npG : p ≠ G := ne_of_none (same_new hD _ _ (s1 _ _ hp0)) hG
    have nrG : r ≠ G := ne_of_none (same_new hD _ _ hr) hG
    change tSeq _ _ _ _ (L2.upd (L2.upd H1 D (.lst [])) G (.lst []))
    generalize L2.upd (L2.upd H1 D (.lst [])) G (.lst []) = H2 at sH hD2 hG2 hr2 hp2 ⊢
    have hrd : readS (TL.tl text) = match headZ (TL.tl "shape") (wordsOf l0 :: ll.map wordsOf) with
        | none => .bad 1
        | some z => if (wordsOf l0 :: ll.map wordsOf).length < 2 then .bad 2 else match (ll.map wordsOf).findIdx? fun ws => (rowW z.length (ll.map wordsOf).length ws).isNone with
          | some j => .bad (j + 2)
          | none => .shape z ((ll.map wordsOf).map (rowI z.length (ll.map wordsOf).length)) (goods (ll.map wordsOf)) := by
      unfold readS
      rw [hL]
      rfl
    obtain ⟨_, hwu⟩ := hsm _ List.mem_cons_self
    refine ⟨_, rfl, _, _, rfl, Or.inl ⟨_, SqL.of hr2, rfl⟩, rfl, _, rfl, ?_⟩
    by_cases hW : (wordsOf l0).length = 2
    · refine ite2 (fun c => absurd c (by rw [List.length_map, hW]; simp)) (fun _ => ?_)
      obtain ⟨wt, wz, hwl⟩ := two_of hW
      have hwc := textL_ch hch (wordsOf l0) (by rw [hL]; exact List.mem_cons_self)
      rw [hwl] at hr2 hrd hwu hwc
      rw [headZ_two] at hrd
      have ett : (mkS wt = "shape") ↔ wt = TL.tl "shape" := ⟨fun q => by rw [← q, tl_mkS], fun q => by rw [q, mkS_tl]⟩
      refine ⟨_, rfl, r, _, 0, .str (mkS wt), rfl, rfl, SqL.of hr2, at_of' (show (0 : Int) = ((0 : Nat) : Int) from rfl) rfl, rfl, _, rfl, ?_⟩
      by_cases ht : wt = TL.tl "shape"
      · refine ite2 (fun c => absurd c (by rw [ett.mpr ht]; simp)) (fun _ => ?_)
        have hzl := hwu wz (List.mem_cons_of_mem _ List.mem_cons_self)
        have hwzc := hwc wz (List.mem_cons_of_mem _ List.mem_cons_self)
        refine ⟨_, rfl, r, _, 1, .str (mkS wz), rfl, rfl, SqL.of hr2, at_of' (show (1 : Int) = ((1 : Nat) : Int) from rfl) rfl, mkS wz, rfl, by rw [TL.len_tl, tl_mkS]; exact hzl, by rw [tl_mkS]; exact hwzc, fun H3 s3 => ⟨_, rfl, ?_⟩⟩
        rw [tl_mkS]
        have sH3 := sH.trans s3
        have hp3 := s3 _ _ hp2
        by_cases hz : okZ wz = true
        · refine ite2 (fun c => absurd c (by rw [hz]; decide)) (fun _ => ?_)
          rw [if_pos ⟨ht, hz⟩] at hrd
          refine ⟨_, rfl, _, _, rfl, Or.inl ⟨_, SqL.of hp3, rfl⟩, rfl, _, rfl, ?_⟩
          rw [hll]
          by_cases hlz : ll = []
          · refine ite2 (fun _ => ?_) (fun c => absurd (by rw [hlz]; rfl) c)
            rw [hlz] at hrd
            exact kb 2 hrd _ sH3
          · have hlp : 0 < ll.length := by
              cases ll with
              | nil => exact absurd rfl hlz
              | cons a b => exact Nat.succ_pos _
            refine ite2 (fun c => absurd c (by simp; omega)) (fun _ => ?_)
            replace hrd := hrd.trans (if_neg (by rw [List.length_cons, List.length_map]; omega))
            have hD3 := s3 _ _ hD2
            have hG3 := s3 _ _ hG2
            have hr3 := s3 _ _ hr2
            have hkk : ((((l0 :: ll).map mkS).map V.str).length : Nat) = ll.length + 1 := by rw [List.length_map, List.length_map, List.length_cons]
            have hml : (mkS wz).length = wz.length := by rw [TL.len_tl, tl_mkS]
            have hLl : (ll.map wordsOf).length = ll.length := List.length_map ..
            have hn60 : ll.length ≤ 60 := by
              rw [hL, List.length_cons, hLl] at hl60
              omega
            have hzl3 : wz.length ≤ 3 := by
              unfold okZ at hz
              rw [Bool.and_eq_true, Bool.and_eq_true, decide_eq_true_eq, decide_eq_true_eq] at hz
              exact hz.1.2
            have hsmL : ∀ W ∈ ll.map wordsOf, W.length ≤ 700 ∧ ∀ u ∈ W, u.length ≤ 600 := fun W hW => hsm W (List.mem_cons_of_mem _ hW)
            have hchL : ∀ W ∈ ll.map wordsOf, ∀ u ∈ W, chOk u := fun W hW => textL_ch hch W (by rw [hL]; exact List.mem_cons_of_mem _ hW)
            have hlli : ∀ i (h : i < ll.length), ll[i].length ≤ 600 := fun i h => hpl _ (by rw [hll]; exact List.mem_cons_of_mem _ (List.getElem_mem h))
            have hLi : ∀ i (h : i < ll.length), (ll.map wordsOf)[i]'(by rw [hLl]; exact h) = wordsOf ll[i] := fun i h => List.getElem_map ..
            generalize hLdef : ll.map wordsOf = L at hLl hsmL hchL hLi hrd
            rw [hll] at hp3
            generalize hxs' : ((l0 :: ll).map mkS).map V.str = xs at hp3 hkk
            have hxi : ∀ i (h : i < ll.length), xs[1 + i]? = some (.str (mkS ll[i])) := fun i h => by
              rw [← hxs', Nat.add_comm, List.getElem?_map, List.getElem?_map, List.getElem?_cons_succ, List.getElem?_eq_getElem h]; rfl
            refine ⟨_, rfl, _, _, rfl, Or.inl ⟨_, SqL.of hp3, rfl⟩, 1, _, rfl, ⟨by decide, by decide, by omega, by omega⟩, for_it walk_range (fun i σ H3 => ∃ (v5 v6 v7 v8 : Option V) (qs : List Addr), σ = [some (.str text), some (.ref p), some (.ref r), some (.ref D), some (.ref G), v5, v6, v7, v8] ∧
              H3 D = some (.lst (qs.map V.ref)) ∧ Forall2 (fun (a : Addr) (row : List Int) => H3 a = some (.lst (row.map V.int))) qs ((L.take i).map (rowI wz.length L.length)) ∧ (∀ q ∈ qs, q ≠ D ∧ q ≠ G) ∧ H3 G = some (.lst ((goods (L.take i)).map V.int)) ∧ (∀ ws ∈ L.take i, (rowW wz.length L.length ws).isNone = false) ∧ Same H H3 ∧ H3 p = some (.lst xs) ∧ H3 r = some (.lst ([wt, wz].map wordV)))
              ⟨none, none, none, none, [], rfl, hD3, ⟨rfl, fun i x y e1 e2 => nomatch e1⟩, (fun q hq => nomatch hq), hG3, (fun w hw => nomatch hw), sH3, hp3, hr3⟩ (fun _ _ _ _ _ => trivial) ?_ ?_⟩
            · rintro i x σ H4 H5 hi ⟨v5, v6, v7, v8, qs0, rfl, hD4, hf4, hne, hG4, hall, s4, hp4, hr4⟩ ⟨rfl, rfl⟩
              have hiL : i < ll.length := by omega
              have hi' : i < L.length := by omega
              have hLe := hLi i hiL
              refine ⟨_, rfl, _, rfl, p, _, _, .str (mkS ll[i]), rfl, rfl, SqL.of hp4, at_of' (show (1 : Int) + (i : Nat) = ((1 + i : Nat) : Int) by omega) (hxi i hiL), mkS ll[i], rfl, by rw [TL.len_tl, tl_mkS]; exact hlli i hiL, fun r1 H6 s6 hr1n hr1 => ?_⟩
              rw [tl_mkS, ← hLe] at hr1
              obtain ⟨hwn, hwu⟩ := hsmL _ (List.getElem_mem hi')
              have hwch := hchL _ (List.getElem_mem hi')
              have htl : (L.take i).length = i := by rw [List.length_take]; omega
              have hgo := goods_snoc (L.take i) L[i]
              rw [← take_more hi', htl] at hgo
              have hgol : (goods (L.take i)).length ≤ 60 := by
                unfold goods
                rw [List.length_map]
                have h1 := List.length_filter_le (fun j => marked ((L.take i).getD j [])) (List.range (L.take i).length)
                rw [List.length_range] at h1
                omega
              have hD6 := s6 _ _ hD4
              have hG6 := s6 _ _ hG4
              have ngr1D : r1 ≠ D := (ne_of_none hD4 hr1n).symm
              have ngr1G : r1 ≠ G := (ne_of_none hG4 hr1n).symm
              have hcase : L[i] = [] ∨ ∃ A u, L[i] = A ++ [u] := by
                cases e : L[i] with
                | nil => exact Or.inl rfl
                | cons p l => exact Or.inr ⟨(p :: l).dropLast, (p :: l).getLast (List.cons_ne_nil _ _), (List.dropLast_concat_getLast _).symm⟩
              refine g_name ?_
              dsimp only
              refine ifS_restS (R := fun σ' H7 => ∃ a, σ' = [some (.str text), some (.ref p), some (.ref r), some (.ref D), some (.ref G), some (.int (1 + (i : Nat))), some (.ref a), v7, v8] ∧ H7 a = some (.lst ((bare L[i]).map wordV)) ∧ H7 G = some (.lst ((goods (L.take (i + 1))).map V.int)) ∧ (∀ b u, H6 b = some u → b ≠ G → H7 b = some u) ∧ Same H H7) ?_ ?_
              · rintro σ' H7 ⟨a, rfl, ha7, hG7, hk7, s7⟩
                have hbn : (bare L[i]).length ≤ 700 := by
                  unfold bare
                  split
                  · rw [List.length_dropLast]; omega
                  · exact hwn
                have hbu : ∀ u ∈ bare L[i], u.length ≤ 600 ∧ chOk u := fun u hu' => by
                  unfold bare at hu'
                  split at hu'
                  · exact ⟨hwu u (List.dropLast_subset _ hu'), hwch u (List.dropLast_subset _ hu')⟩
                  · exact ⟨hwu u hu', hwch u hu'⟩
                have hp7 := hk7 _ _ (s6 _ _ hp4) npG
                have hr7 := hk7 _ _ (s6 _ _ hr4) nrG
                have hD7 := hk7 _ _ hD6 nGD.symm
                have hnn : ((xs.length : Nat) : Int) - 1 = (L.length : Nat) := by omega
                refine ⟨_, rfl, a, _, rfl, Or.inl (SqL.of ha7), fun J hJ D1 hD1 => lc_it hJ (fun j H8 => H8 D1 = some (.lst (((bare L[i]).take j).map (numX L.length))) ∧ Same H7 H8) ⟨upd_same, same_new hD1⟩ (fun j H8 _ ⟨_, s8⟩ => GSq.same s8) ?_ ?_⟩
                · rintro j x H9 H8 hj ⟨hD8, s8⟩ ⟨rfl, hx⟩
                  rw [List.length_map] at hj
                  obtain rfl : V.str (mkS (bare L[i])[j]) = x := by
                    rw [List.getElem?_map, List.getElem?_eq_getElem hj] at hx
                    exact Option.some.inj hx
                  obtain ⟨hb1, hb2⟩ := hbu _ (List.getElem_mem hj)
                  refine ⟨rfl, ?_⟩
                  refine lcYes ?_
                  refine ⟨_, rfl, _, rfl, _, _, rfl, Or.inl ⟨_, SqL.of (s8 _ _ hp7), rfl⟩, _, _, rfl, rfl, mkS (bare L[i])[j], L.length, congrArg (fun z => [V.str (mkS (bare L[i])[j]), V.int z]) hnn, by rw [TL.len_tl, tl_mkS]; exact hb1, by rw [tl_mkS]; exact hb2, fun H9 s9 => ?_⟩
                  rw [tl_mkS]
                  refine ⟨_, s9 _ _ hD8, by rw [List.length_map, List.length_take]; exact small1000 (by omega), ?_, (s8.trans s9).put hD1⟩
                  rw [upd_same, take_more hj, List.map_append]; rfl
                · rintro H8 ⟨hD8, s8⟩
                  rw [List.length_map, List.take_length] at hD8
                  have hr8 := s8 _ _ hr7
                  have hDD8 := s8 _ _ hD7
                  have hG8 := s8 _ _ hG7
                  have nD1D : D1 ≠ D := (ne_of_none hD7 hD1).symm
                  have nD1G : D1 ≠ G := (ne_of_none hG7 hD1).symm
                  refine ⟨_, rfl, _, _, rfl, Or.inl ⟨_, SqL.of hD8, rfl⟩, _, rfl, r, _, 1, .str (mkS wz), rfl, rfl, SqL.of hr8, at_of' (show (1 : Int) = ((1 : Nat) : Int) from rfl) rfl, _, _, rfl, ⟨Nat.le_of_lt (small1000 (by omega)), rfl⟩, rfl, _, rfl, ?_⟩
                  rw [hml, List.length_map]
                  have fin : (rowW wz.length L.length L[i]).isNone = true → readS (TL.tl text) = .bad (i + 2) := fun hno => by
                    have hfi : (L.findIdx? fun ws => (rowW wz.length L.length ws).isNone) = some i := by
                      refine List.findIdx?_eq_some_iff_getElem.mpr ⟨hi', hno, fun j hj => ?_⟩
                      have := hall L[j] (List.mem_take_iff_getElem.mpr ⟨j, by omega, rfl⟩)
                      simp [this]
                    rw [hfi] at hrd
                    exact hrd
                  have out : (rowW wz.length L.length L[i]).isNone = true → ∀ H', Same H H' → Q (.int ((1 : Int) + (i : Nat) + 1)) H' := fun hno H' sx => by
                    have := kb (i + 2) (fin hno) H' sx
                    rwa [show ((i + 2 : Nat) : Int) = (1 : Int) + (i : Nat) + 1 by omega] at this
                  by_cases hbl : (bare L[i]).length = wz.length
                  · refine ite2 (fun c => absurd c (by rw [hbl]; simp)) (fun _ => ?_)
                    refine ⟨_, rfl, D1, _, rfl, Or.inl (SqL.of hD8), rfl, flat_numX _ _, _, rfl, ?_⟩
                    rw [in_non]
                    cases hok : (bare L[i]).all (okN L.length) with
                    | false =>
                      refine ite2 (fun _ => ?_) (fun c => absurd rfl c)
                      refine ⟨_, rfl, _, _, rfl, rfl, out ?_ _ (s7.trans s8)⟩
                      unfold rowW goalsW
                      rw [if_neg (fun q => by rw [hok] at q; cases q.2)]
                      rfl
                    | true =>
                      refine ite2 (fun c => absurd c (by decide)) (fun _ => ?_)
                      have hrw : rowW wz.length L.length L[i] = some ((bare L[i]).map valN) := by
                        unfold rowW goalsW
                        rw [if_pos ⟨hbl, hok⟩]
                      have hri : rowI wz.length L.length L[i] = ((bare L[i]).map valN).map Int.ofNat := by unfold rowI; rw [hrw]; rfl
                      rw [numX_ok hok, ← hri] at hD8
                      have hql : qs0.length = i := by rw [hf4.1, List.length_map, htl]
                      refine ⟨_, rfl, Or.inl ⟨rfl, _, SqL.of hDD8⟩, _, rfl, D, _, _, rfl, rfl, hDD8, small1000 (by rw [List.length_map]; omega), ?_⟩
                      refine ⟨_, _, _, _, qs0 ++ [D1], rfl, by rw [upd_same, List.map_append]; rfl, ?_, fun q hq => ?_, by rw [upd_ne nGD]; exact hG8, fun ws hws => ?_, (s7.trans s8).put hD0, by rw [upd_ne npD]; exact s8 _ _ hp7, by rw [upd_ne nrD]; exact hr8⟩
                      · rw [take_more hi', List.map_append]
                        refine Forall2.snoc ⟨hf4.1, fun k x y e1 e2 => ?_⟩ ?_
                        · obtain ⟨n1, n2⟩ := hne x (List.mem_of_getElem? e1)
                          show L2.upd _ D _ x = _
                          rw [upd_ne n1]
                          exact s8 _ _ (hk7 _ _ (s6 _ _ (hf4.2 k x y e1 e2)) n2)
                        · rw [upd_ne nD1D]
                          exact hD8
                      · rcases List.mem_append.mp hq with h | h
                        · exact hne q h
                        · rw [List.mem_singleton.mp h]; exact ⟨nD1D, nD1G⟩
                      · rw [take_more hi'] at hws
                        rcases List.mem_append.mp hws with h | h
                        · exact hall ws h
                        · rw [List.mem_singleton.mp h, hrw]; rfl
                  · refine ite2 (fun _ => ?_) (fun c => absurd (by simp; omega) c)
                    refine ⟨_, rfl, _, _, rfl, rfl, out ?_ _ (s7.trans s8)⟩
                    unfold rowW goalsW
                    rw [if_neg (fun q => hbl q.1)]
                    rfl
              · intro rest
                have hr1' : H6 r1 = some (.lst ((L[i].map mkS).map V.str)) := by rw [List.map_map]; exact hr1
                refine ⟨_, rfl, by show 0 ≤ sizeLine; decide, fun E1 hE1 => ⟨.list ((L[i].map mkS).map PyData.str), .list (([] : List Str).map PyData.str), .lst (SqL.of (same_new hE1 _ _ hr1')) (dpAll_strs _ _ _), .lst (xs := []) (SqL.of upd_same) .nil, shaped_mks hwch, shaped_sgs (l := []) (fun c hc => nomatch hc), _, rfl, ?_⟩⟩
                rw [eqv_strs]
                have s67 : Same H6 (L2.upd H6 E1 (.lst [])) := same_new hE1
                have nm : marked L[i] = false → ∀ Hx, Same H6 Hx → ∃ a, ([some (.str text), some (.ref p), some (.ref r), some (.ref D), some (.ref G), some (.int (1 + (i : Nat))), some (.ref r1), v7, v8] : L2.St) = [some (.str text), some (.ref p), some (.ref r), some (.ref D), some (.ref G), some (.int (1 + (i : Nat))), some (.ref a), v7, v8] ∧ Hx a = some (.lst ((bare L[i]).map wordV)) ∧ Hx G = some (.lst ((goods (L.take (i + 1))).map V.int)) ∧ (∀ b u, H6 b = some u → b ≠ G → Hx b = some u) ∧ Same H Hx := fun hm Hx sx => by
                  refine ⟨r1, rfl, ?_, ?_, fun b u e _ => sx _ _ e, (s4.trans s6).trans sx⟩
                  · unfold bare
                    rw [if_neg (by rw [hm]; decide)]
                    exact sx _ _ hr1
                  · rw [hgo, hm, if_neg (by decide), List.append_nil]
                    exact sx _ _ hG6
                rcases hcase with e | ⟨A', u, e⟩
                · refine ite2 (fun c => absurd c (by rw [e]; simp)) (fun _ => ?_)
                  exact ite2 (fun c => absurd c (by decide)) (fun _ => rest _ _ (nm (by rw [e]; rfl) _ s67))
                · refine ite2 (fun _ => ?_) (fun c => absurd (by rw [e]; simp) c)
                  have hr7 := s67 _ _ hr1
                  refine ⟨_, rfl, _, rfl, r1, _, -1, wordV u, rfl, rfl, SqL.of hr7, by rw [e, List.map_append]; exact atI_last _ _, rfl, _, rfl, ?_⟩
                  have hm := marked_last (A := A') (x := u)
                  rw [← e] at hm
                  cases hmk : marked L[i] with
                  | true =>
                    rw [hmk] at hm
                    refine ite2 (fun _ => ?_) (fun c => absurd hm.symm c)
                    refine ⟨_, rfl, _, rfl, _, rfl, r1, _, rfl, SqL.of hr7, fun a ha => ?_⟩
                    have s78 := s67.trans (same_new (o := .lst (cutV (L[i].map wordV) none (some (-1)))) ha)
                    have ha8 : (L2.upd (L2.upd H6 E1 (.lst [])) a (.lst (cutV (L[i].map wordV) none (some (-1))))) a = some (.lst (cutV (L[i].map wordV) none (some (-1)))) := upd_same
                    have hG8 := s78 _ _ hG6
                    have naG : a ≠ G := (ne_of_none (s67 _ _ hG6) ha).symm
                    refine ⟨_, rfl, Or.inl ⟨rfl, _, SqL.of hG8⟩, _, rfl, _, _, rfl, rfl, G, _, _, rfl, rfl, hG8, small1000 (by rw [List.length_map]; omega), rest _ _ ⟨a, rfl, ?_, ?_, fun b u' e' hb => ?_, ?_⟩⟩
                    · rw [upd_ne naG, ha8]
                      have e2 : cutV (L[i].map wordV) none (some (-1)) = (bare L[i]).map wordV := by
                        unfold bare
                        rw [if_pos hmk, e, List.map_append, List.dropLast_concat]
                        exact cut_last
                      rw [e2]
                    · rw [upd_same, hgo, hmk, if_pos rfl, List.map_append]; exact congrArg (fun z => some (HO.lst (List.map V.int (goods (List.take i L)) ++ [V.int z]))) (show (1 : Int) + (i : Nat) - 1 = (i : Nat) by omega)
                    · rw [upd_ne hb]; exact s78 _ _ e'
                    · exact ((s4.trans s6).trans s78).put hG0
                  | false =>
                    rw [hmk] at hm
                    refine ite2 (fun c => absurd (hm.trans c) (by decide)) (fun _ => ?_)
                    exact rest _ _ (nm hmk _ s67)
            · rintro σ H4 ⟨v5, v6, v7, v8, qs, rfl, hD4, hf4, hne, hG4, hall, s4, hp4, hr4⟩
              rw [show (((xs.length : Nat) : Int) - 1).toNat = L.length by omega, List.take_length] at hf4 hG4 hall
              have hfi : (L.findIdx? fun ws => (rowW wz.length L.length ws).isNone) = none := List.findIdx?_eq_none_iff.mpr fun ws hws => hall ws hws
              rw [hfi] at hrd
              have hRw : Dp K H4 (.ref D) (rowsID (L.map (rowI wz.length L.length))) := Dp.lst (SqL.of hD4) (dpAll_gs hf4.1 fun i r row h1 h2 => hf4.2 i r row h1 h2)
              have hgl : (L.map (rowI wz.length L.length)).length = L.length := List.length_map ..
              have hgood : GoodRows (mkS wz).length (L.map (rowI wz.length L.length)) := by
                refine ⟨fun j hj => ?_, by rw [hgl]; omega⟩
                rw [hgl, List.getElem_map]
                have hjL : j < L.length := by rw [hgl] at hj; exact hj
                have := hall L[j] (List.getElem_mem hjL)
                cases e : rowW wz.length L.length L[j] with
                | none => rw [e] at this; cases this
                | some rw' =>
                  obtain ⟨h1, h2⟩ := rowW_good e
                  have er : rowI wz.length L.length L[j] = rw'.map Int.ofNat := by unfold rowI; rw [e]; rfl
                  rw [er, hml]
                  rintro (q | ⟨g, hg, q⟩)
                  · exact q (by rw [List.length_map]; exact h1)
                  · obtain ⟨k, hk, rfl⟩ := List.mem_map.mp hg
                    have := h2 k hk
                    exact q ⟨Int.natCast_nonneg k, by show (k : Int) < (L.length : Int); omega⟩
              have hgoods : ∀ e ∈ goods L, 0 ≤ e ∧ e < ((L.map (rowI wz.length L.length)).length : Nat) := fun e he => by
                unfold goods at he
                obtain ⟨k, hk, rfl⟩ := List.mem_map.mp he
                have := List.mem_range.mp (List.mem_filter.mp hk).1
                rw [hgl]
                exact ⟨Int.natCast_nonneg k, by show (k : Int) < (L.length : Int); omega⟩
              have hgol : (goods L).length ≤ 60 := by
                unfold goods
                rw [List.length_map]
                have h1 := List.length_filter_le (fun j => marked (L.getD j [])) (List.range L.length)
                rw [List.length_range] at h1
                omega
              refine ⟨_, rfl, r, _, 1, .str (mkS wz), rfl, rfl, SqL.of hr4, at_of' (show (1 : Int) = ((1 : Nat) : Int) from rfl) rfl, _, rfl, _, rfl, fun x dx hx hdx ne => mk_ok hx hdx ne (Or.inl hRw) hG4 hgood hgoods (by omega) (by omega) (by omega) (fun H4 s5 hM => ⟨rfl, ks wz _ _ hrd x _ (s4.trans s5) hM⟩)⟩
        · refine ite2 (fun _ => ?_) (fun c => absurd (by simp [hz]) c)
          rw [if_neg fun q => hz q.2] at hrd
          exact kb 1 hrd _ sH3
      · refine ite2 (fun _ => ?_) (fun c => absurd (by simpa using fun q => ht (ett.mp q)) c)
        rw [if_neg fun q => ht q.1] at hrd
        exact kb 1 hrd _ sH
    · refine ite2 (fun _ => ?_) (fun c => absurd (by rw [List.length_map]; simp; omega) c)
      rw [headZ_none hW] at hrd
      exact kb 1 hrd _ sH
end
end Vf
set_option Elab.async false
set_option linter.all false
set_option maxRecDepth 100000
set_option maxHeartbeats 4000000
namespace Vf
open PySem L2 PyProof.Rows
/-- a line of a text -/
def TxOk (B : Nat) (x : Str) : Prop := x.length ≤ B ∧ chOk (TL.tl x) ∧ 10 ∉ TL.tl x
theorem TxOk.mono {B B' : Nat} {x : Str} (h : TxOk B x) (hb : B ≤ B') : TxOk B' x := ⟨Nat.le_trans h.1 hb, h.2⟩
instance (B : Nat) (x : Str) : Decidable (TxOk B x) := by unfold TxOk chOk; infer_instance
theorem cut_one {xs : List V} {a : Nat} : cutV xs (some (a : Int)) (some ((a : Int) + 1)) = (xs.drop a).take 1 := by
  unfold cutV
  rw [show (a : Int) + 1 = ((a + 1 : Nat) : Int) by omega, HT.sIx_nat, HT.sIx_nat]
  by_cases h : a < xs.length
  · rw [Nat.min_eq_left (by omega), Nat.min_eq_left (by omega), show a + 1 - a = 1 by omega]
  · rw [List.drop_of_length_le (i := a) (by omega), List.drop_of_length_le (by omega), List.take_nil, List.take_nil]
theorem cutS_sub {z : Str} {lo hi : Option Int} : ∀ c ∈ TL.tl (cutS z lo hi), c ∈ TL.tl z := by
  rw [cutS_tl]
  exact fun c hc => List.mem_of_mem_drop (List.mem_of_mem_take hc)
theorem cut_from_len {z : Str} {j : Nat} : (cutS z (some (j : Int)) none).length ≤ z.length - j := by
  rw [TL.len_tl, cutS_tl, HT.sIx_none, HT.sIx_nat, List.length_take, List.length_drop, TL.len_tl]; omega
theorem cut_to_len {z : Str} {j : Nat} (h : j ≤ z.length) : (cutS z none (some (j : Int))).length ≤ j := by
  rw [TL.len_tl, cut_to h, List.length_take]; omega
def signs (r : Str) : List Str := ["0", "1", "7", "+", ".", " ", "", "-", "a", "z", "\t", " 0", "good", r]
theorem signs_ok {r : Str} (h : TL.tl r = (List.replicate (31 : Int).toNat (TL.tl "9")).flatten) : ∀ x ∈ signs r, TxOk 31 x := by
  have h1 : ∀ x ∈ (["0", "1", "7", "+", ".", " ", "", "-", "a", "z", "\t", " 0", "good"] : List Str), TxOk 31 x := by decide +kernel
  have h2 : TxOk 31 r := by
    unfold TxOk chOk
    rw [TL.len_tl, h]
    decide +kernel
  intro x hx
  have e : signs r = (["0", "1", "7", "+", ".", " ", "", "-", "a", "z", "\t", " 0", "good"] : List Str) ++ [r] := rfl
  rw [e] at hx
  rcases List.mem_append.mp hx with h | h
  · exact h1 x h
  · rw [List.mem_singleton.mp h]; exact h2
theorem if10 {i : Nat} {σ : L2.St} {H : Hp} {Q : VK} {x : Int} (hx : σ[i]? = some (some (.int x))) (k : ∀ e : Nat, Q (.int (e : Nat)) H) : tIf (tTest (tOp (rI0 fun i j => V.bl (decide (i < j))) (tVar i) (tC (V.int 5)))) (tC (V.int 1)) (tC (V.int 0)) σ H Q :=
  ⟨_, hx, _, _, rfl, rfl, _, rfl, ite2 (fun _ => k 1) (fun _ => k 0)⟩
/-- the signs of all lines, and a line feed for each -/
def tot (ys : List Str) : Nat := (ys.map (·.length)).sum + ys.length
theorem tot_app (a b : List Str) : tot (a ++ b) = tot a + tot b := by
  unfold tot
  rw [List.map_append, List.sum_append, List.length_append]
  omega
theorem tot_one (x : Str) : tot [x] = x.length + 1 := by unfold tot; simp
theorem tot_cut (xs : List Str) (a : Nat) : tot (xs.take a) + tot (xs.drop a) = tot xs := by rw [← tot_app, List.take_append_drop]
theorem tot_at (xs : List Str) {a : Nat} (h : a < xs.length) : tot (xs.take a) + (xs[a].length + 1) + tot (xs.drop (a + 1)) = tot xs := by
  rw [← tot_one, ← tot_app, ← tot_app, List.append_assoc, List.singleton_append, ← List.drop_eq_getElem_cons h, List.take_append_drop]
theorem tot_first {xs : List Str} {B : Nat} (h : ∀ x ∈ xs, x.length ≤ B) : tot (xs.take 1) ≤ B + 1 := by
  cases xs with
  | nil => unfold tot; simp
  | cons x l =>
    have := h x List.mem_cons_self
    show tot [x] ≤ _
    rw [tot_one]; omega
section
variable {P : Program} {w : World} {K : PySem.W.Frag} {mg : Str → Option Value} {base : Heap}
def spBentL : Sp := fun vs H Q _ => ∃ (p c l o : Addr) (xs os : List Str) (n B : Nat), vs = [.ref p, .ref l, .ref o] ∧ Pen H p c n ∧ n ≤ 2 ^ 29 ∧ H l = some (.lst (xs.map V.str)) ∧ H o = some (.lst (os.map V.str)) ∧ 1 ≤ xs.length ∧ xs.length ≤ 30 ∧
  (∀ x ∈ xs, TxOk B x) ∧ 0 < os.length ∧ os.length ≤ 30 ∧ (∀ x ∈ os, TxOk 20 x) ∧ 20 ≤ B ∧ B ≤ 200 ∧
  ∀ (r : Addr) (ys : List Str) (H' : Hp), H' r = some (.lst (ys.map V.str)) → ys.length ≤ xs.length + 1 → (∀ y ∈ ys, TxOk (B + 31) y) → tot ys ≤ tot xs + B + 31 → Pen H' p c (n + 4) → Kp p H H' → Q (.ref r) H'
abbrev s__law_bent : Stmt := top 27
abbrev N__law_bent : List Str := ["_law_pen_here", "_law_lines", "_law_odd", "_law_at", "_law_sort", "_law_signs", "_law_line", "_law_more", "_law_place"]
abbrev P__law_bent : List Str := ["_law_pen_here", "_law_lines", "_law_odd"]
theorem sc__law_bent : FnScope N__law_bent P__law_bent (defScope s__law_bent) := ⟨rfl, rfl, rfl, by decide +kernel, rfl, by decide +kernel, by decide +kernel⟩

theorem ok_bentL {f fD fP : Addr} {fd fdD fdP : FuncData} (F : Fun K "_law_bent" "_law_bent" s__law_bent f fd) (T : TxtP K mg fD fP) (FD : Fun K "_law_draw" "_law_draw" s__law_draw fD fdD) (b_law_draw : Binds K fdD P__law_draw [])
    (FP : Fun K "_law_pick" "_law_pick" s__law_pick fP fdP) (b_law_pick : Binds K fdP P__law_pick []) : FnOk P w K mg base CX0 3 f fd P__law_bent spBentL := by
  have G_law_draw : FnOk P w K mg base CX0 1 fD fdD P__law_draw spDraw := ok_draw FD T.toTxtA
  have G_law_pick : FnOk P w K mg base CX0 2 fP fdP P__law_pick (spPickL K) := ok_pickL FP T.toTxtD FD b_law_draw
  refine F.ok sc__law_bent (fun vs H Q E h => ?_) (fun cdv A outer s H vs Q E hr h => ?_)
  · obtain ⟨p, c, l, o, xs, os, n, B, rfl, _⟩ := h
    rfl
  · obtain ⟨p, c, l, o, xs, os, n, B, rfl, hp, hn, hl, ho, hx1, hx30, hx, ho1, ho30, hok, hB, hB2, k⟩ := h
    have hu := hu_of hr
    refine ⟨_, (pss_cons (ps_par (i := 3) (j := 4) (by rfl) sc__law_bent.nd rfl rfl (by decide) rfl rfl (pa_cons (pe_call G_law_draw (hr.mono (by decide)) (by rfl) T.m_law_draw T.k_law_draw b_law_draw .nil pass0 (pa_cons (pv 0) (pa_cons (pe_callB call_len (by rfl) T.len PySem.boot_len (pa_cons (pv 1) pa_nil)) pa_nil))) (pa_cons (pe_call G_law_draw (hr.mono (by decide)) (by rfl) T.m_law_draw T.k_law_draw b_law_draw .nil pass0 (pa_cons (pv 0) (pa_cons pe_int pa_nil))) pa_nil)) (by rfl))
      (pss_cons (ps_if (pt_cmpR op_eq (pv 4) pe_int (nomark _)) (pss_one (ps_ret (pe_op op_cat (pe_slice sl_list (pv 1) po_none (po_some (pv 3))) (pe_slice sl_list (pv 1) (po_some (pe_op op_add (pv 3) pe_int)) po_none)))) pss_nil)
      (pss_cons (ps_if (pt_cmpR op_eq (pv 4) pe_int (nomark _)) (pss_one (ps_ret (pe_op op_cat (pe_op op_cat (pe_slice sl_list (pv 1) po_none (po_some (pv 3))) (pe_lst (pa_cons (pe_call G_law_pick (hr.mono (by decide)) (by rfl) T.m_law_pick T.k_law_pick b_law_pick .nil pass0 (pa_cons (pv 0) (pa_cons (pv 2) pa_nil))) pa_nil))) (pe_slice sl_list (pv 1) (po_some (pv 3)) po_none)))) pss_nil)
      (pss_cons (ps_if (pt_cmpR op_eq (pv 4) pe_int (nomark _)) (pss_one (ps_ret (pe_op op_cat (pe_op op_cat (pe_slice sl_list (pv 1) po_none (po_some (pv 3))) (pe_slice sl_list (pv 1) (po_some (pv 3)) (po_some (pe_op op_add (pv 3) pe_int)))) (pe_slice sl_list (pv 1) (po_some (pv 3)) po_none)))) pss_nil)
      (pss_cons (ps_set (i := 5) sc__law_bent.nd rfl (Or.inl rfl) (pe_lst (pa_cons pe_str (pa_cons pe_str (pa_cons pe_str (pa_cons pe_str (pa_cons pe_str (pa_cons pe_str (pa_cons pe_str (pa_cons pe_str (pa_cons pe_str (pa_cons pe_str (pa_cons pe_str (pa_cons pe_str (pa_cons pe_str (pa_cons (pe_op op_mul_str pe_str pe_int) pa_nil))))))))))))))))
      (pss_cons (ps_par (i := 6) (j := 7) (by rfl) sc__law_bent.nd rfl rfl (by decide) rfl rfl (pa_cons (pe_ix ix_list (pv 1) (pv 3) (fun _ _ => rfl)) (pa_cons (pe_call G_law_pick (hr.mono (by decide)) (by rfl) T.m_law_pick T.k_law_pick b_law_pick .nil pass0 (pa_cons (pv 0) (pa_cons (pv 5) pa_nil))) pa_nil)) (by rfl))
      (pss_cons (ps_set (i := 8) sc__law_bent.nd rfl (Or.inl rfl) (pe_call G_law_draw (hr.mono (by decide)) (by rfl) T.m_law_draw T.k_law_draw b_law_draw .nil pass0 (pa_cons (pv 0) (pa_cons (pe_op op_add (pe_callB call_len (by rfl) T.len PySem.boot_len (pa_cons (pv 6) pa_nil)) pe_int) pa_nil))))
      (pss_cons (ps_set (i := 6) sc__law_bent.nd rfl (Or.inl rfl) (pe_op op_add_str (pe_op op_add_str (pe_slice sl_str (pv 6) po_none (po_some (pv 8))) (pv 7)) (pe_slice sl_str (pv 6) (po_some (pe_op op_add (pv 8) (pe_ifExp (pt_cmpR op_lt (pv 4) pe_int (nomark _)) pe_int pe_int))) po_none)))
      (pss_one (ps_ret (pe_op op_cat (pe_op op_cat (pe_slice sl_list (pv 1) po_none (po_some (pv 3))) (pe_lst (pa_cons (pv 6) pa_nil))) (pe_slice sl_list (pv 1) (po_some (pe_op op_add (pv 3) pe_int)) po_none)))))))))))), ?_⟩
    obtain ⟨kv0, hk0⟩ := id hp.dk
    have nlp : l ≠ p := ne_of hl hk0 (fun z => nomatch z)
    have nop : o ≠ p := ne_of ho hk0 (fun z => nomatch z)
    refine ⟨_, rfl, _, rfl, _, _, rfl, Or.inl ⟨_, SqL.of hl, rfl⟩, p, c, _, n, rfl, hp, by omega, by rw [List.length_map]; omega, by rw [List.length_map]; omega, fun d H1 d0 d1 hp1 k1 => ?_⟩
    rw [List.length_map] at d1
    obtain ⟨a, rfl⟩ : ∃ a : Nat, d = (a : Nat) := ⟨d.toNat, by omega⟩
    have ha : a < xs.length := by omega
    have hl1 := k1 _ _ hl nlp
    refine ⟨_, rfl, p, c, 7, _, rfl, hp1, by omega, by decide, by decide, fun srt H2 e0 e1 hp2 k2 => ⟨_, _, rfl, ?_⟩⟩
    have k02 := k1.trans k2
    have hl2 := k02 _ _ hl nlp
    have ho2 := k02 _ _ ho nop
    have ea : (a : Int) + 1 = ((a + 1 : Nat) : Int) := by omega
    have hln : ∀ m : Nat, m ≤ 100 → m ≤ sizeLine := fun m hm => Nat.le_of_lt (small1000 (by omega))
    refine ⟨_, rfl, rfl, _, rfl, ite2 (fun _ => ?_) (fun c0 => ?_)⟩
    · refine ⟨_, rfl, _, rfl, _, rfl, l, _, rfl, SqL.of hl2, fun A1 hA1 => ?_⟩
      rw [cutV_toN]
      have s1 : Same H2 (L2.upd H2 A1 (.lst ((xs.map V.str).take a))) := same_new hA1
      refine ⟨_, rfl, _, rfl, _, _, rfl, rfl, _, rfl, l, _, rfl, SqL.of (s1 _ _ hl2), fun A2 hA2 => ?_⟩
      dsimp only
      rw [ea, cutV_fromN]
      have s2 := s1.trans (same_new (o := .lst ((xs.map V.str).drop (a + 1))) hA2)
      refine ⟨A1, A2, _, _, rfl, rfl, same_new hA2 _ _ upd_same, upd_same, hln _ (by rw [List.length_take, List.length_drop, List.length_map]; omega), fun A3 hA3 => ?_⟩
      have s3 := s2.trans (same_new (o := .lst ((xs.map V.str).take a ++ (xs.map V.str).drop (a + 1))) hA3)
      refine k A3 (xs.take a ++ xs.drop (a + 1)) _ (by rw [upd_same, List.map_append, List.map_take, List.map_drop]) (by rw [List.length_append, List.length_take, List.length_drop]; omega) (fun y hy => ?_) (by have h1 := tot_at xs ha; rw [tot_app]; omega) ((hp2.same s3).mono (by omega)) (k02.trans (Kp.of s3))
      rcases List.mem_append.mp hy with h | h
      · exact (hx y (List.mem_of_mem_take h)).mono (by omega)
      · exact (hx y (List.mem_of_mem_drop h)).mono (by omega)
    refine ⟨_, rfl, rfl, _, rfl, ite2 (fun _ => ?_) (fun c1 => ?_)⟩
    · refine ⟨_, rfl, _, rfl, _, rfl, l, _, rfl, SqL.of hl2, fun A1 hA1 => ?_⟩
      rw [cutV_toN]
      have s1 : Same H2 (L2.upd H2 A1 (.lst ((xs.map V.str).take a))) := same_new hA1
      have hA1' : (L2.upd H2 A1 (.lst ((xs.map V.str).take a))) A1 = some (.lst ((xs.map V.str).take a)) := upd_same
      obtain ⟨nA1p, nA1c⟩ := hp2.new hA1
      generalize L2.upd H2 A1 (.lst ((xs.map V.str).take a)) = H3 at s1 hA1' ⊢
      refine ⟨_, rfl, _, rfl, p, c, o, _, _, rfl, hp2.same s1, by omega, SqL.of (s1 _ _ ho2), by rw [List.length_map]; exact ho1, by rw [List.length_map]; omega, fun j v H4 hj hp4 k4 => ?_⟩
      obtain ⟨y, hy, rfl⟩ : ∃ y ∈ os, v = V.str y := by
        rw [List.getElem?_map] at hj
        cases e : os[j]? with
        | none => rw [e] at hj; cases hj
        | some y => rw [e] at hj; exact ⟨y, List.mem_of_getElem? e, (Option.some.inj hj).symm⟩
      have hl4 := k4 _ _ (s1 _ _ hl2) nlp
      have hA14 := k4 _ _ hA1' nA1p
      refine ⟨by show 1 ≤ sizeLine; decide, fun A2 hA2 => ⟨A1, A2, _, _, rfl, rfl, same_new hA2 _ _ hA14, upd_same, hln _ (by rw [List.length_take, List.length_map]; show min a xs.length + 1 ≤ 100; omega), fun A3 hA3 => ?_⟩⟩
      have s3 := (same_new (o := .lst [V.str y]) hA2).trans (same_new (o := .lst ((xs.map V.str).take a ++ [V.str y])) hA3)
      refine ⟨_, rfl, _, rfl, _, rfl, l, _, rfl, SqL.of (s3 _ _ hl4), fun A4 hA4 => ?_⟩
      rw [cutV_fromN]
      have s4 := s3.trans (same_new (o := .lst ((xs.map V.str).drop a)) hA4)
      refine ⟨A3, A4, _, _, rfl, rfl, same_new hA4 _ _ upd_same, upd_same, hln _ (by rw [List.length_append, List.length_take, List.length_drop, List.length_map]; show min a xs.length + 1 + (xs.length - a) ≤ 100; omega), fun A5 hA5 => ?_⟩
      have s5 := s4.trans (same_new (o := .lst ((xs.map V.str).take a ++ [V.str y] ++ (xs.map V.str).drop a)) hA5)
      refine k A5 (xs.take a ++ [y] ++ xs.drop a) _ (by rw [upd_same, List.map_append, List.map_append, List.map_take, List.map_drop]; rfl) (by rw [List.length_append, List.length_append, List.length_take, List.length_drop]; show min a xs.length + 1 + (xs.length - a) ≤ xs.length + 1; omega) (fun u hu' => ?_) (by have h1 := tot_cut xs a; have h2 := (hok y hy).1; rw [tot_app, tot_app, tot_one]; omega) ((hp4.same s5).mono (by omega)) ((k02.trans (Kp.of s1)).trans (k4.trans (Kp.of s5)))
      rcases List.mem_append.mp hu' with h | h
      · rcases List.mem_append.mp h with h | h
        · exact (hx u (List.mem_of_mem_take h)).mono (by omega)
        · rw [List.mem_singleton.mp h]; exact (hok y hy).mono (by omega)
      · exact (hx u (List.mem_of_mem_drop h)).mono (by omega)
    refine ⟨_, rfl, rfl, _, rfl, ite2 (fun _ => ?_) (fun c2 => ?_)⟩
    · refine ⟨_, rfl, _, rfl, _, rfl, l, _, rfl, SqL.of hl2, fun A1 hA1 => ?_⟩
      rw [cutV_toN]
      have s1 : Same H2 (L2.upd H2 A1 (.lst ((xs.map V.str).take a))) := same_new hA1
      refine ⟨_, rfl, _, rfl, _, rfl, _, rfl, _, _, rfl, rfl, _, rfl, l, _, rfl, SqL.of (s1 _ _ hl2), fun A2 hA2 => ?_⟩
      dsimp only
      rw [cut_one]
      have s2 := s1.trans (same_new (o := .lst (((xs.map V.str).drop a).take 1)) hA2)
      refine ⟨A1, A2, _, _, rfl, rfl, same_new hA2 _ _ upd_same, upd_same, hln _ (by rw [List.length_take, List.length_take, List.length_drop, List.length_map]; omega), fun A3 hA3 => ?_⟩
      have s3 := s2.trans (same_new (o := .lst ((xs.map V.str).take a ++ ((xs.map V.str).drop a).take 1)) hA3)
      refine ⟨_, rfl, _, rfl, _, rfl, l, _, rfl, SqL.of (s3 _ _ hl2), fun A4 hA4 => ?_⟩
      rw [cutV_fromN]
      have s4 := s3.trans (same_new (o := .lst ((xs.map V.str).drop a)) hA4)
      refine ⟨A3, A4, _, _, rfl, rfl, same_new hA4 _ _ upd_same, upd_same, hln _ (by rw [List.length_append, List.length_take, List.length_take, List.length_drop, List.length_map]; omega), fun A5 hA5 => ?_⟩
      have s5 := s4.trans (same_new (o := .lst ((xs.map V.str).take a ++ ((xs.map V.str).drop a).take 1 ++ (xs.map V.str).drop a)) hA5)
      refine k A5 (xs.take a ++ (xs.drop a).take 1 ++ xs.drop a) _ (by rw [upd_same, List.map_append, List.map_append, List.map_take, List.map_take, List.map_drop]) (by rw [List.length_append, List.length_append, List.length_take, List.length_take, List.length_drop]; omega) (fun u hu' => ?_) (by have h1 := tot_cut xs a; have h2 := tot_first (xs := xs.drop a) (B := B) fun x hx' => (hx x (List.mem_of_mem_drop hx')).1; rw [tot_app, tot_app]; omega) ((hp2.same s5).mono (by omega)) (k02.trans (Kp.of s5))
      rcases List.mem_append.mp hu' with h | h
      · rcases List.mem_append.mp h with h | h
        · exact (hx u (List.mem_of_mem_take h)).mono (by omega)
        · exact (hx u (List.mem_of_mem_drop (List.mem_of_mem_take h))).mono (by omega)
      · exact (hx u (List.mem_of_mem_drop h)).mono (by omega)
    refine ⟨_, _, rfl, rfl, by decide, by decide, by decide +kernel, fun r hr9 => ?_⟩
    refine ⟨by show 14 ≤ sizeLine; decide, fun S hS => ?_⟩
    have hso := signs_ok hr9
    have hSS : (L2.upd H2 S (.lst ((signs r).map V.str))) S = some (.lst ((signs r).map V.str)) := upd_same
    have s1 : Same H2 (L2.upd H2 S (.lst ((signs r).map V.str))) := same_new hS
    change gName 5 (V.ref S) _ (L2.upd H2 S (.lst ((signs r).map V.str))) _
    generalize L2.upd H2 S (.lst ((signs r).map V.str)) = H3 at hSS s1 ⊢
    have hsl : (signs r).length = 14 := rfl
    generalize signs r = sg_ at hSS hso hsl
    refine ⟨_, rfl, _, rfl, l, _, _, .str xs[a], rfl, rfl, SqL.of (s1 _ _ hl2), at_of' rfl (by rw [List.getElem?_map, List.getElem?_eq_getElem ha]; rfl), _, rfl, _, rfl, p, c, S, _, _, rfl, hp2.same s1, by omega, SqL.of hSS, by rw [List.length_map, hsl]; decide, by rw [List.length_map, hsl]; decide, fun j v H4 hj hp4 k4 => ?_⟩
    obtain ⟨y, hy, rfl⟩ : ∃ y ∈ sg_, v = V.str y := by
      rw [List.getElem?_map] at hj
      cases e : sg_[j]? with
      | none => rw [e] at hj; cases hj
      | some y => rw [e] at hj; exact ⟨y, List.mem_of_getElem? e, (Option.some.inj hj).symm⟩
    obtain ⟨hxa1, hxa2, hxa3⟩ := hx _ (List.getElem_mem ha)
    obtain ⟨hy1, hy2, hy3⟩ := hso y hy
    have hl4 := k4 _ _ (s1 _ _ hl2) nlp
    have hxs : xs[a].length ≤ sizeLine := Nat.le_of_lt (small1000 (by omega))
    refine ⟨_, _, rfl, ?_⟩
    refine ⟨_, rfl, _, rfl, _, _, rfl, ⟨hxs, rfl⟩, _, _, rfl, rfl, p, c, _, _, rfl, hp4, by omega, by omega, by omega, fun d2 H5 f0 f1 hp5 k5 => ?_⟩
    obtain ⟨b, rfl⟩ : ∃ b : Nat, d2 = (b : Nat) := ⟨d2.toNat, by omega⟩
    have hb : b ≤ xs[a].length := by omega
    have hl5 := k5 _ _ hl4 nlp
    have tail : ∀ (e : Nat), TxOk (B + 31) (cutS xs[a] none (some (b : Int)) ++ y ++ cutS xs[a] (some ((b + e : Nat) : Int)) none) := fun e => ⟨by
        have h1 := cut_to_len hb
        have h2 := cut_from_len (z := xs[a]) (j := b + e)
        rw [TL.len_tl, TL.tl_append, TL.tl_append, List.length_append, List.length_append, ← TL.len_tl, ← TL.len_tl, ← TL.len_tl]
        omega, fun c hc => by
        rw [TL.tl_append, TL.tl_append] at hc
        rcases List.mem_append.mp hc with h | h
        · rcases List.mem_append.mp h with h | h
          · exact hxa2 c (cutS_sub c h)
          · exact hy2 c h
        · exact hxa2 c (cutS_sub c h), fun hc => by
        rw [TL.tl_append, TL.tl_append] at hc
        rcases List.mem_append.mp hc with h | h
        · rcases List.mem_append.mp h with h | h
          · exact hxa3 (cutS_sub _ h)
          · exact hy3 h
        · exact hxa3 (cutS_sub _ h)⟩
    refine ⟨_, rfl, _, rfl, _, rfl, xs[a], rfl, hxs, _, rfl, _, _, rfl, rfl, ?_, _, rfl, _, rfl, if10 rfl (fun e => ⟨_, _, rfl, rfl, _, rfl, xs[a], rfl, hxs, _, _, rfl, rfl, ?_, ?_⟩)⟩
    · have h1 := cut_to_len hb
      exact Nat.le_of_lt (small1000 (by omega))
    · have h1 := (tail e).1
      rw [TL.len_tl, TL.tl_append, List.length_append, ← TL.len_tl, ← TL.len_tl] at h1
      exact Nat.le_of_lt (small1000 (by show _ + (cutS xs[a] (some ((b + e : Nat) : Int)) none).length ≤ _; omega))
    · have ht := tail e
      change gName 6 (.str (cutS xs[a] none (some (b : Int)) ++ y ++ cutS xs[a] (some ((b + e : Nat) : Int)) none)) _ _ _
      generalize cutS xs[a] none (some (b : Int)) ++ y ++ cutS xs[a] (some ((b + e : Nat) : Int)) none = u at ht ⊢
      refine ⟨_, rfl, _, rfl, _, rfl, l, _, rfl, SqL.of hl5, fun A1 hA1 => ?_⟩
      rw [cutV_toN]
      refine ⟨_, rfl, by show 1 ≤ sizeLine; decide, fun A2 hA2 => ⟨A1, A2, _, _, rfl, rfl, same_new hA2 _ _ upd_same, upd_same, hln _ (by rw [List.length_take, List.length_map]; show min a xs.length + 1 ≤ 100; omega), fun A3 hA3 => ?_⟩⟩
      have s3 := ((same_new (o := .lst ((xs.map V.str).take a)) hA1).trans (same_new (o := .lst [V.str u]) hA2)).trans (same_new (o := .lst ((xs.map V.str).take a ++ [V.str u])) hA3)
      refine ⟨_, rfl, _, rfl, _, _, rfl, rfl, _, rfl, l, _, rfl, SqL.of (s3 _ _ hl5), fun A4 hA4 => ?_⟩
      dsimp only
      rw [ea, cutV_fromN]
      have s4 := s3.trans (same_new (o := .lst ((xs.map V.str).drop (a + 1))) hA4)
      refine ⟨A3, A4, _, _, rfl, rfl, same_new hA4 _ _ upd_same, upd_same, hln _ (by rw [List.length_append, List.length_take, List.length_drop, List.length_map]; show min a xs.length + 1 + (xs.length - (a + 1)) ≤ 100; omega), fun A5 hA5 => ?_⟩
      have s5 := s4.trans (same_new (o := .lst ((xs.map V.str).take a ++ [V.str u] ++ (xs.map V.str).drop (a + 1))) hA5)
      refine k A5 (xs.take a ++ [u] ++ xs.drop (a + 1)) _ (by rw [upd_same, List.map_append, List.map_append, List.map_take, List.map_drop]; rfl) (by rw [List.length_append, List.length_append, List.length_take, List.length_drop]; show min a xs.length + 1 + (xs.length - (a + 1)) ≤ xs.length + 1; omega) (fun u' hu' => ?_) (by have h1 := tot_at xs ha; have h2 := ht.1; rw [tot_app, tot_app, tot_one]; omega) ((hp5.same s5).mono (by omega)) ((k02.trans (Kp.of s1)).trans ((k4.trans k5).trans (Kp.of s5)))
      rcases List.mem_append.mp hu' with h | h
      · rcases List.mem_append.mp h with h | h
        · exact (hx u' (List.mem_of_mem_take h)).mono (by omega)
        · rw [List.mem_singleton.mp h]; exact ht
      · exact (hx u' (List.mem_of_mem_drop h)).mono (by omega)
end
end Vf
set_option Elab.async false
set_option linter.all false
set_option maxRecDepth 100000
set_option maxHeartbeats 4000000
namespace Vf
open PySem L2 PyProof.Rows
/-- the lines as the law writes them -/
def lawLine (es : List Int) (i : Nat) (row : List Int) : Str := Txt.join " " ((row.map fun g => Str.ofString (toString g)) ++ (if (i : Int) ∈ es then [("good" : Str)] else []))
theorem lawLine_eq {es : List Int} {i : Nat} {row : List Int} (h : ∀ g ∈ row, 0 ≤ g) (hne : row ≠ []) : lawLine es i row = lineS es i row := by
  refine TL.ext_tl ?_
  rw [tl_lineS h hne]
  unfold lawLine lineWs rowWs
  rw [TL.join_eq, TL.tl_join, List.map_append, List.map_map]
  have e : TL.tl (" " : Str) = [32] := by decide +kernel
  rw [e]
  refine congrArg _ ?_
  congr 1
  · refine List.map_congr_left fun g hg => ?_
    have h0 := h g hg
    show TL.tl (Str.ofString (toString g)) = _
    have := TL.tl_num g.toNat
    rw [Int.toNat_of_nonneg h0] at this
    exact this
  · split <;> rfl
def headS (z : Str) : Str := "shape " ++ z
def linesS (z : Str) (gs : List (List Int)) (es : List Int) : List Str := headS z :: gs.mapIdx (lineS es)
theorem strS_lines {z : Str} {gs : List (List Int)} {es : List Int} : strS z gs es = Txt.join "\n" (linesS z gs es) := by
  unfold strS linesS headS
  congr 2
theorem linesS_congr {z : Str} {gs : List (List Int)} {es es' : List Int} (h : ∀ x, x ∈ es ↔ x ∈ es') : linesS z gs es = linesS z gs es' := by
  unfold linesS
  refine congrArg (headS z :: ·) (List.ext_getElem (by rw [List.length_mapIdx, List.length_mapIdx]) fun i h1 h2 => ?_)
  rw [List.getElem_mapIdx, List.getElem_mapIdx]
  unfold lineS
  by_cases e : (i : Int) ∈ es
  · rw [if_pos e, if_pos ((h _).mp e)]
  · rw [if_neg e, if_neg fun q => e ((h _).mpr q)]
theorem num_ch : ∀ k : Nat, k < 100 → ∀ c ∈ TL.numL k, c < 1114112 := by decide +kernel
theorem goodW_ch : ∀ c ∈ goodW, c < 1114112 := by decide +kernel
theorem lineS_ok {es : List Int} {i : Nat} {row : List Int} (h : ∀ g ∈ row, 0 ≤ g ∧ g < 100) (hne : row ≠ []) (hl : row.length ≤ 3) : TxOk 20 (lineS es i row) := by
  refine ⟨?_, ?_⟩
  · have h1 : (rowS row).length ≤ (row.map fun g => Str.ofString (toString g)).length * (3 + (" " : Str).length) := join_le fun y hy => by
      obtain ⟨g, hg, rfl⟩ := List.mem_map.mp hy
      obtain ⟨g0, g1⟩ := h g hg
      obtain ⟨k, rfl⟩ : ∃ k : Nat, g = k := ⟨g.toNat, by omega⟩
      exact int_small k (by omega)
    rw [List.length_map, show (" " : Str).length = 1 by decide +kernel] at h1
    have h2 : (if (i : Int) ∈ es then (" good" : Str) else "").length ≤ 5 := by split <;> decide +kernel
    unfold lineS
    rw [TL.len_tl, TL.tl_append, List.length_append, ← TL.len_tl, ← TL.len_tl]
    by_cases e : (i : Int) ∈ es
    · rw [if_pos e] at h2 ⊢
      omega
    · rw [if_neg e] at h2 ⊢
      omega
  · rw [tl_lineS (fun g hg => (h g hg).1) hne]
    have hw : ∀ w ∈ lineWs es i row, ∀ c ∈ w, c < 1114112 := fun w hw => by
      rcases List.mem_append.mp hw with q | q
      · obtain ⟨g, hg, rfl⟩ := List.mem_map.mp q
        exact num_ch _ (by have := h g hg; omega)
      · split at q
        · rw [List.mem_singleton.mp q]; exact goodW_ch
        · cases q
    refine ⟨fun c hc => ?_, fun hc => ?_⟩
    · rcases mem_joinL hc with q | ⟨w, hw', q⟩
      · omega
      · exact hw w hw' c q
    · rcases mem_joinL hc with q | ⟨w, hw', q⟩
      · cases q
      · exact (lineWs_ok h w hw').2.2 q
theorem okZ_all {z : Str} (hz : okZ (TL.tl z) = true) : z.length ≤ 3 ∧ 1 ≤ z.length ∧ ∀ c ∈ TL.tl z, 97 ≤ c ∧ c ≤ 122 := by
  unfold okZ at hz
  rw [Bool.and_eq_true, Bool.and_eq_true, Bool.and_eq_true, decide_eq_true_eq, decide_eq_true_eq, List.all_eq_true] at hz
  obtain ⟨⟨z1, z3⟩, hza, _⟩ := hz
  rw [TL.len_tl]
  refine ⟨z3, z1, fun c hc => ?_⟩
  have := hza c hc
  rwa [Bool.and_eq_true, decide_eq_true_eq, decide_eq_true_eq] at this
theorem headS_tl (z : Str) : TL.tl (headS z) = TL.tl "shape " ++ TL.tl z := TL.tl_append _ _
theorem headS_ok {z : Str} (hz : okZ (TL.tl z) = true) : TxOk 20 (headS z) := by
  obtain ⟨z3, z1, hza⟩ := okZ_all hz
  have h6 : (TL.tl "shape ").length = 6 := by decide +kernel
  have hs : ∀ c ∈ TL.tl "shape ", c < 1114112 ∧ c ≠ 10 := by decide +kernel
  unfold TxOk
  rw [TL.len_tl, headS_tl, List.length_append, h6, ← TL.len_tl]
  refine ⟨by omega, fun c hc => ?_, fun hc => ?_⟩
  · rcases List.mem_append.mp hc with q | q
    · exact (hs c q).1
    · have := hza c q; omega
  · rcases List.mem_append.mp hc with q | q
    · exact (hs 10 q).2 rfl
    · have := hza 10 q; omega
theorem linesS_ok {z : Str} {gs : List (List Int)} {es : List Int} (hz : okZ (TL.tl z) = true) (hg : GoodRows z.length gs) (hl : gs.length ≤ 60) : ∀ x ∈ linesS z gs es, TxOk 20 x := fun x hx => by
  obtain ⟨z3, z1, hza⟩ := okZ_all hz
  rcases List.mem_cons.mp hx with e | e
  · rw [e]; exact headS_ok hz
  · obtain ⟨i, hi, rfl⟩ := List.getElem_of_mem e
    rw [List.getElem_mapIdx]
    rw [List.length_mapIdx] at hi
    obtain ⟨r1, r2⟩ := good_row hg hi
    exact lineS_ok (fun g hg' => by have := r2 g hg'; omega) (fun q => by rw [q] at r1; simp at r1; omega) (by omega)
theorem lines_join {ys : List Str} (hne : ys ≠ []) (h : ∀ y ∈ ys, 10 ∉ TL.tl y) : linesOf (TL.tl (Txt.join "\n" ys)) = ys.map TL.tl := by
  unfold linesOf
  rw [TL.join_eq, TL.tl_join]
  refine TL.spl_join (s := 10) (S := []) (fun q => hne (List.map_eq_nil_iff.mp q)) fun w hw => ?_
  obtain ⟨y, hy, rfl⟩ := List.mem_map.mp hw
  exact h y hy
theorem textL_join {ys : List Str} (hne : ys ≠ []) (h : ∀ y ∈ ys, 10 ∉ TL.tl y) : textL (TL.tl (Txt.join "\n" ys)) = ys.map fun y => wordsOf (TL.tl y) := by
  unfold textL
  rw [lines_join hne h, List.map_map]
  rfl
theorem readS_congr {s t : List Nat} (h : textL s = textL t) : readS s = readS t := by
  unfold readS
  rw [h]
theorem joined_ok {ys : List Str} {B : Nat} (h : ∀ y ∈ ys, TxOk B y) : (Txt.join "\n" ys).length ≤ ys.length * (B + 1) ∧ chOk (TL.tl (Txt.join "\n" ys)) ∧ (textL (TL.tl (Txt.join "\n" ys))).length ≤ ys.length + 1 := by
  refine ⟨?_, fun c hc => ?_, ?_⟩
  · have := join_le (sep := "\n") fun y hy => (h y hy).1
    rwa [show ("\n" : Str).length = 1 by decide +kernel] at this
  · rw [TL.join_eq, TL.tl_join] at hc
    have e : TL.tl ("\n" : Str) = [10] := by decide +kernel
    rw [e] at hc
    rcases mem_joinL hc with q | ⟨w, hw, q⟩
    · omega
    · obtain ⟨y, hy, rfl⟩ := List.mem_map.mp hw
      exact (h y hy).2.1 c q
  · cases ys with
    | nil => decide +kernel
    | cons a l =>
      rw [textL_join (List.cons_ne_nil _ _) fun y hy => (h y hy).2.2, List.length_map]
      omega
theorem read_none : readS (TL.tl "") = .bad 1 := by
  unfold readS
  have e : textL (TL.tl "") = [[]] := by decide +kernel
  rw [e, headZ_none (by decide)]
theorem read_head {z : Str} (hz : okZ (TL.tl z) = true) : readS (TL.tl (headS z)) = .bad 2 := by
  obtain ⟨z3, z1, hza⟩ := okZ_all hz
  have ht := headS_ok hz
  have hz0 : TL.tl z ≠ [] := fun q => by rw [TL.len_tl, q] at z1; cases z1
  have e : textL (TL.tl (headS z)) = [[TL.tl "shape", TL.tl z]] := by
    have e1 : headS z = Txt.join "\n" [headS z] := TL.ext_tl (by rw [TL.join_eq, TL.tl_join]; rfl)
    rw [e1, textL_join (List.cons_ne_nil _ _) (fun y hy => by rw [List.mem_singleton.mp hy]; exact ht.2.2), List.map_cons, List.map_nil]
    refine congrArg (fun l => [l]) ?_
    have e2 : TL.tl (headS z) = TL.joinL [32] [TL.tl "shape", TL.tl z] := by
      rw [headS_tl]
      show _ = TL.tl "shape" ++ ([32] ++ TL.tl z)
      rw [← List.append_assoc]
      refine congrArg (· ++ TL.tl z) ?_
      decide +kernel
    rw [e2]
    refine words_join (List.cons_ne_nil _ _) fun w hw => ?_
    rcases List.mem_cons.mp hw with e | e
    · rw [e]; decide +kernel
    · rw [List.mem_singleton.mp e]
      exact ⟨fun q => by have := hza _ q; omega, hz0⟩
  unfold readS
  rw [e, headZ_two, if_pos ⟨rfl, hz⟩]
  rfl
end Vf
set_option Elab.async false
set_option linter.all false
set_option maxRecDepth 100000
set_option maxHeartbeats 4000000
namespace Vf
open PySem L2 PyProof.Rows
def rOr (r1 r2 : R2) : R2 := fun x y H Q => r1 x y H Q ∨ r2 x y H Q
theorem op_or2 {X : Cx} {f : Value → Value → Sem Value} {r1 r2 : R2} (h1 : OpR X f r1) (h2 : OpR X f r2) : OpR X f (rOr r1 r2) := by
  intro pins s σ H x y v u Q I rx ry h
  rcases h with h | h
  · exact h1 pins s σ H x y v u Q I rx ry h
  · exact h2 pins s σ H x y v u Q I rx ry h
theorem inV_int (x : Int) : ∀ es : List Int, inV (.int x) (es.map V.int) = decide (x ∈ es)
  | [] => rfl
  | e :: es => by
    have ih := inV_int x es
    unfold inV at ih ⊢
    rw [List.map_cons, List.any_cons, ih, Bool.eq_iff_iff]
    by_cases h : x = e
    · subst h; simp [eqV]
    · have h2 : ¬ e = x := fun q => h q.symm
      simp [eqV, h, h2]
theorem flat_ints (es : List Int) : (es.map V.int).all flatV = true := by
  rw [List.all_map, List.all_eq_true]
  exact fun _ _ => rfl
theorem gsq_lst {K : PySem.W.Frag} {H1 H : Hp} {a : Addr} {xs : List V} (h1 : H1 a = some (.lst xs)) (h : H a = some (.lst xs)) : GSq K H1 a xs H := by
  refine ⟨fun _ => SqL.of h, fun q => ?_⟩
  rcases q with (q | ⟨o, q⟩) | q
  · rw [h1] at q; cases q
  · rw [h1] at q; cases q
  · exact Or.inr q
theorem nodup_le : ∀ {a b : List Int}, a.Nodup → (∀ x ∈ a, x ∈ b) → a.length ≤ b.length
  | [], _, _, _ => Nat.zero_le _
  | x :: a, b, hn, h => by
    obtain ⟨h1, h2⟩ := List.nodup_cons.mp hn
    have hx := h x List.mem_cons_self
    have h3 := nodup_le (a := a) (b := b.erase x) h2 fun y hy => (List.mem_erase_of_ne (fun e : y = x => h1 (by rw [← e]; exact hy))).mpr (h y (List.mem_cons_of_mem _ hy))
    have h4 := List.length_erase_of_mem hx
    have h5 := List.length_pos_of_mem hx
    rw [List.length_cons]
    omega
theorem str_okS {K : PySem.W.Frag} {C o : Addr} {H : Hp} {z : Str} {gs : List (List Int)} {es : List Int} {Q : VK} (a : MadeAt K C H o z gs es) (hg : GoodRows z.length gs) (hz : z.length ≤ 26) (hl : gs.length ≤ 100) (he : es.length ≤ 100) (hb : ∀ e ∈ es, 0 ≤ e ∧ e < (gs.length : Nat)) (k : ∀ H', Same H H' → Q (.str (Txt.join "\n" (linesS z gs es))) H') : rStrI C (spStrS K C) E0 [.ref o] H Q := by
  obtain ⟨f, u, m, h⟩ := a
  obtain ⟨dx, R, E, ho, _⟩ := id h
  have hf : f.length ≤ 100 := by
    have h1 : ∀ (g : List Int), g.Pairwise (· < ·) → (∀ x ∈ g, 0 ≤ x ∧ x < (gs.length : Nat)) → g.length ≤ gs.length := fun g hp hb' => by
      have hn : g.Nodup := hp.imp fun h => by omega
      have h2 := nodup_le (a := g) (b := (List.range gs.length).map Int.ofNat) hn fun x hx => by
        obtain ⟨x0, x1⟩ := hb' x hx
        exact List.mem_map.mpr ⟨x.toNat, List.mem_range.mpr (by omega), by show ((x.toNat : Nat) : Int) = x; omega⟩
      rwa [List.length_map, List.length_range] at h2
    have := h1 f u fun x hx => hb x ((m x).mp hx)
    omega
  refine ⟨o, dx, _, rfl, ho, o, z, gs, f, rfl, h, hg, hz, hl, hf, fun H' s => ⟨_, rfl, ?_⟩⟩
  rw [strS_lines, linesS_congr m]
  exact k H' s
theorem good_if {K : PySem.W.Frag} {σ : L2.St} {H : Hp} {Q : VK} {j : Nat} {G : Addr} {es : List Int} (h8 : σ[8]? = some (some (.int ((0 : Int) + (j : Nat))))) (h5 : σ[5]? = some (some (.ref G))) (hG : H G = some (.lst (es.map V.int))) (k : ∀ A H', H A = none → Same H H' → H' A = some (.lst ((if (j : Int) ∈ es then [("good" : Str)] else []).map V.str)) → Q (.ref A) H') :
    tIf (tTest (tOp (rIn K false) (tVar 8) (tVar 5))) (tLst (tCons (tC (V.str (Str.ofString "good"))) tNil)) (tLst tNil) σ H Q := by
  refine ⟨_, h8, _, h5, G, _, rfl, Or.inl (SqL.of hG), rfl, flat_ints _, _, rfl, ?_⟩
  show if inV _ _ = true then _ else _
  rw [inV_int, Int.zero_add]
  by_cases e : (j : Int) ∈ es
  · rw [if_pos (decide_eq_true e)]
    exact ⟨by show 1 ≤ sizeLine; decide, fun A hA => k A _ hA (same_new hA) (by rw [upd_same, if_pos e]; rfl)⟩
  · rw [if_neg (by rw [decide_eq_false e]; decide)]
    exact ⟨by show 0 ≤ sizeLine; decide, fun A hA => k A _ hA (same_new hA) (by rw [upd_same, if_neg e]; rfl)⟩
theorem sum_ok {ys : List Str} {B : Nat} (h : ∀ y ∈ ys, y.length ≤ B) (hb : ys.length * B + ys.length ≤ 16777216) : (ys.map fun x => x.length).sum + ys.length * ("\n" : Str).length ≤ 16777216 := by
  have h1 := sum_le h
  rw [show ("\n" : Str).length = 1 by decide +kernel]
  omega
theorem or_empty {K : PySem.W.Frag} {σ : L2.St} {H : Hp} {Q : VK} {r : Addr} {ys : List Str} (h11 : σ[11]? = some (some (.ref r))) (hr : H r = some (.lst (ys.map V.str))) (hch : ∀ y ∈ ys, chOk (TL.tl y))
    (k : ∀ (A : Addr) (xs : List Str) (H' : Hp), Same H H' → H' A = some (.lst (xs.map V.str)) → 1 ≤ xs.length → xs.length ≤ ys.length + 1 → tot xs ≤ tot ys + 1 → (∀ x ∈ xs, x ∈ ys ∨ x = "") → Q (.ref A) H') : tIf (tTest (tOp (rNeD K) (tVar 11) (tLst tNil))) (tVar 11) (tLst (tCons (tC (V.str (Str.ofString ""))) tNil)) σ H Q := by
  have e : ys.map PyData.str = ((ys.map TL.tl).map mkS).map PyData.str := by
    rw [List.map_map, List.map_map]
    exact List.map_congr_left fun y _ => by show _ = PyData.str (mkS (TL.tl y)); rw [mkS_tl]
  refine ⟨_, h11, by show 0 ≤ sizeLine; decide, fun E1 hE1 => ⟨.list (ys.map PyData.str), .list (([] : List Str).map PyData.str), .lst (SqL.of (same_new hE1 _ _ hr)) (dpAll_strs _ _ _), .lst (xs := []) (SqL.of upd_same) .nil, by rw [e]; exact shaped_mks (fun w hw => by obtain ⟨y, hy, rfl⟩ := List.mem_map.mp hw; exact hch y hy), shaped_sgs (l := []) (fun c hc => nomatch hc), _, rfl, ?_⟩⟩
  rw [eqv_strs]
  have s1 : Same H (L2.upd H E1 (.lst [])) := same_new hE1
  generalize L2.upd H E1 (.lst []) = H1 at s1 ⊢
  cases ys with
  | nil =>
    refine ite2 (fun c => absurd c (by simp)) (fun _ => ?_)
    exact ⟨by show 1 ≤ sizeLine; decide, fun A hA => k A [""] _ (s1.trans (same_new hA)) upd_same (Nat.le_refl _) (Nat.le_refl _) (by rw [tot_one]; decide +kernel) (fun x hx => Or.inr (List.mem_singleton.mp hx))⟩
  | cons y l =>
    refine ite2 (fun _ => ?_) (fun c => absurd (by simp) c)
    exact ⟨_, h11, k r (y :: l) _ s1 (s1 _ _ hr) (Nat.succ_pos _) (Nat.le_succ _) (Nat.le_succ _) (fun x hx => Or.inl hx)⟩
def odds : List Str := ["", "shape a", "shape ba", "0", "0 0", "0 0 0", "0 good", "good", "good good", "code a", "shape abcd"]
theorem odds_ok : ∀ x ∈ odds, TxOk 20 x := by decide +kernel
def linesJ (z : Str) (gs : List (List Int)) (es : List Int) (j : Nat) : List Str := headS z :: (List.range j).map fun i => lineS es i (gs.getD i [])
theorem linesJ_succ (z : Str) (gs : List (List Int)) (es : List Int) (j : Nat) : linesJ z gs es (j + 1) = linesJ z gs es j ++ [lineS es j (gs.getD j [])] := by
  unfold linesJ
  rw [List.range_succ, List.map_append]; rfl
theorem linesJ_all (z : Str) (gs : List (List Int)) (es : List Int) : linesJ z gs es gs.length = linesS z gs es := by
  unfold linesJ linesS
  refine congrArg (headS z :: ·) (List.ext_getElem (by rw [List.length_map, List.length_range, List.length_mapIdx]) fun i h1 h2 => ?_)
  rw [List.getElem_map, List.getElem_range, List.getElem_mapIdx]
  rw [List.length_mapIdx] at h2
  rw [List.getD_eq_getElem?_getD, List.getElem?_eq_getElem h2, Option.getD_some]
structure TxtLaw (K : PySem.W.Frag) (mg : Str → Option Value) (fD fP fPen fLe fSh fTd fRd fBe fLo C fEq fSr pR gR : Addr) (mc : Value) : Prop extends TxtP K mg fD fP where
  min : mg "min" = none
  str : mg "str" = none
  mgShape : mg "Shape" = some (.ref C)
  eqs : PySem.W.findIn K (.ref C) "__eq__" = some (some (.ref fEq))
  eqf : PySem.W.isFn K (.ref fEq) = true
  srs : PySem.W.findIn K (.ref C) "__str__" = some (some (.ref fSr))
  srf : PySem.W.isFn K (.ref fSr) = true
  cr : ClX.CRead K C mc
  cm : ClX.CMet K C mc "read" pR gR
  m_law_pen : mg "_law_pen" = some (.ref fPen)
  k_law_pen : PySem.W.keepIn K (.ref fPen) = true
  m_law_letters : mg "_law_letters" = some (.ref fLe)
  k_law_letters : PySem.W.keepIn K (.ref fLe) = true
  m_law_shape : mg "_law_shape" = some (.ref fSh)
  k_law_shape : PySem.W.keepIn K (.ref fSh) = true
  m_law_told : mg "_law_told" = some (.ref fTd)
  k_law_told : PySem.W.keepIn K (.ref fTd) = true
  m_law_read : mg "_law_read" = some (.ref fRd)
  k_law_read : PySem.W.keepIn K (.ref fRd) = true
  m_law_bent : mg "_law_bent" = some (.ref fBe)
  k_law_bent : PySem.W.keepIn K (.ref fBe) = true
  m_law_loose : mg "_law_loose" = some (.ref fLo)
  k_law_loose : PySem.W.keepIn K (.ref fLo) = true
def spLaw (K : PySem.W.Frag) : Sp := fun vs H Q _ => ∃ (a : Addr) (ns : List Int), vs = [.ref a] ∧ SqL K H a (ns.map V.int) ∧ ns.length ≤ 63 ∧ ∀ H', Q (.bl true) H'
section
variable {P : Program} {w : World} {K : PySem.W.Frag} {mg : Str → Option Value} {base : Heap}
abbrev s_law : Stmt := top 30
abbrev N_law : List Str := ["_law_script", "_law_pen_here", "_law_turn", "_law_letters_here", "_law_rows", "_law_good", "_law_shape_here", "_law_lines", "_law_state", "_law_odd", "_law_again", "_law_bent_here", "_law_change", "_law_text", "_law_goal", "_law_line"]
abbrev P_law : List Str := ["_law_script"]
theorem sc_law : FnScope N_law P_law (defScope s_law) := ⟨rfl, rfl, rfl, by decide +kernel, rfl, by decide +kernel, by decide +kernel⟩

theorem ok_law {f fD fP fPen fLe fSh fTd fRd fBe fLo C CB CT fEq fSr pR gR fI : Addr} {mc : Value} {fd fdD fdPen fdLe fdSh fdTd fdRd fdBe fdLo fdEq fdSr fdI : FuncData} (F : Fun K "law" "law" s_law f fd) (T : TxtLaw K mg fD fP fPen fLe fSh fTd fRd fBe fLo C fEq fSr pR gR mc)
    (FD : Fun K "_law_draw" "_law_draw" s__law_draw fD fdD) (b_law_draw : Binds K fdD P__law_draw [])
    (G_law_pen : FnOk P w K mg base CX0 1 fPen fdPen P__law_pen (spPen K)) (b_law_pen : Binds K fdPen P__law_pen []) (G_law_letters : FnOk P w K mg base CX0 2 fLe fdLe P__law_letters spLetters) (b_law_letters : Binds K fdLe P__law_letters [])
    (G_law_shape : FnOk P w K mg base CX0 2 fSh fdSh P__law_shape spShape) (b_law_shape : Binds K fdSh P__law_shape [])
    (G_law_told : FnOk P w K mg base CX0 7 fTd fdTd P__law_told (spToldS K C)) (b_law_told : Binds K fdTd P__law_told [])
    (G_law_read : FnOk P w K mg base (L2.CX P w) 6 fRd fdRd P__law_read (spLawR K C)) (b_law_read : Binds K fdRd P__law_read [])
    (G_law_bent : FnOk P w K mg base CX0 3 fBe fdBe P__law_bent spBentL) (b_law_bent : Binds K fdBe P__law_bent [])
    (G_law_loose : FnOk P w K mg base CX0 2 fLo fdLo P__law_loose spLoose) (b_law_loose : Binds K fdLo P__law_loose [])
    (GEq : FnOk P w K mg base CX0 1 fEq fdEq P_Shape___eq__ (spEqS K C)) (bEq : Binds K fdEq P_Shape___eq__ [])
    (GSr : FnOk P w K mg base CX0 1 fSr fdSr P_Shape___str__ (spStrS K C)) (bSr : Binds K fdSr P_Shape___str__ [])
    (GRead : FnR P w K mg base (L2.CX P w) 6 gR (spRead K C CT))
    (MShape : Mk K C fI) (GShape : FnOk P w K mg base (L2.CX P w) 4 fI fdI P_Shape___init__ (spInitS K C CB)) (bShape : Binds K fdI P_Shape___init__ []) : FnOk P w K mg base (L2.CX P w) 8 f fd P_law (spLaw K) := by
  have G_law_draw : FnOk P w K mg base CX0 1 fD fdD P__law_draw spDraw := ok_draw FD T.toTxtA
  refine F.okX sc_law (fun vs H Q E h => ?_) (fun cdv A outer s H vs Q E hr h => ?_)
  · obtain ⟨a, ns, rfl, _⟩ := h
    rfl
  · obtain ⟨a, ns, rfl, hS, hlen, k⟩ := h
    have hu := hu_of hr
    have passL : Passes (L2.CX P w) (cxOf (L2.CX P w) P w K mg base N_law "law" (defScope s_law) f cdv A outer s H E) E := passes_call (takes_of rfl rfl rfl rfl) (fun _ _ _ _ h => h)
    refine ⟨_, (pss_cons (ps_set (i := 1) sc_law.nd rfl (Or.inr rfl) (pe_call G_law_pen (hr.mono (by decide)) (by rfl) T.m_law_pen T.k_law_pen b_law_pen .nil pass0 (pa_cons (pv 0) pa_nil)))
      (pss_cons (ps_for (passes_of rfl) rfl (pi_range1 (by rfl) T.range (pa_cons (pe_op op_add pe_int (pe_callB (call_min2 rfl) (by rfl) T.min boot_min (pa_cons pe_int (pa_cons (pe_callB call_len (by rfl) T.len PySem.boot_len (pa_cons (pv 0) pa_nil)) pa_nil)))) pa_nil)) (pg_name (i := 2) sc_law.nd rfl (Or.inl rfl)) (pss_cons (ps_asg (pe_call G_law_shape (hr.mono (by decide)) (by rfl) T.m_law_shape T.k_law_shape b_law_shape .nil pass0 (pa_cons (pv 1) (pa_cons (pe_call G_law_letters (hr.mono (by decide)) (by rfl) T.m_law_letters T.k_law_letters b_law_letters .nil pass0 (pa_cons (pv 1) (pa_cons (pe_op op_add pe_int (pe_call G_law_draw (hr.mono (by decide)) (by rfl) T.m_law_draw T.k_law_draw b_law_draw .nil pass0 (pa_cons (pv 1) (pa_cons pe_int pa_nil)))) pa_nil))) (pa_cons pe_int pa_nil)))) (pg_tup (by rfl) (pgs_cons (pg_name (i := 3) sc_law.nd rfl (Or.inl rfl)) (pgs_cons (pg_name (i := 4) sc_law.nd rfl (Or.inl rfl)) (pgs_cons (pg_name (i := 5) sc_law.nd rfl (Or.inl rfl)) pgs_nil)))))
      (pss_cons (ps_par (i := 6) (j := 7) (by rfl) sc_law.nd rfl rfl (by decide) rfl rfl (pa_cons (pe_make MShape GShape (hr.mono (by decide)) (by rfl) T.mgShape bShape .nil passL (pa_cons (pv 3) (pa_cons (pv 4) (pa_cons (pv 5) pa_nil)))) (pa_cons (pe_lst (pa_cons (pe_op op_add_str pe_str (pv 3)) pa_nil)) pa_nil)) (by rfl))
      (pss_cons (ps_for (passes_of rfl) rfl (pi_range1 (by rfl) T.range (pa_cons (pe_callB call_len (by rfl) T.len PySem.boot_len (pa_cons (pv 4) pa_nil)) pa_nil)) (pg_name (i := 8) sc_law.nd rfl (Or.inl rfl)) (pss_one (ps_expr (pe_bm PySem.F.plainAttrs_list PySem.F.slot_list_append PySem.F.type_list_append mt_append (pv 7) (pa_cons (pe_join pe_str (pe_op op_cat (pe_lc (own := [("_law_goal", 14)]) (g := gName 14) (by rfl) sc_law.nd (pi_seq (K := K) rfl (pe_ix ix_list (pv 4) (pv 8) (fun _ _ => rfl))) (blkOk_by (own := [("_law_goal", 14)]) (N := N_law) (sc := defScope s_law) (by decide +kernel)) (fun _ _ _ _ _ => pg_name (i := 14) sc_law.nd rfl (Or.inl rfl)) (fun _ _ _ _ _ => pts_nil) (fun _ _ _ _ _ => (pe_callTy call_str_int (by rfl) T.str boot_str (pa_cons (pv 14) pa_nil)))) (pe_ifExp (pt_cmpR op_in_seq (pv 8) (pv 5) (by rfl)) (pe_lst (pa_cons pe_str pa_nil)) (pe_lst pa_nil)))) pa_nil)))))
      (pss_cons (ps_if (PW.pt (pw_or (pt_cmpR op_ne (pe_callTy (call_strI T.srs T.srf GSr (hr.mono (by decide)) bSr pass0) (by rfl) T.str boot_str (pa_cons (pv 6) pa_nil)) (pe_join pe_str (pv 7)) (nomark _)) (pw_or1 (pt_not (pt_cmpR (op_ownI (op := .Eq) (fun _ _ => rfl) T.eqs T.eqf GEq (hr.mono (by decide)) bEq pass0) (ClX.pe_cmeth (pe_glob (by rfl) T.mgShape (v := .ref C) rfl) T.cr T.cm GRead (hr.mono (by decide)) passL (pa_cons (pe_callTy (call_strI T.srs T.srf GSr (hr.mono (by decide)) bSr pass0) (by rfl) T.str boot_str (pa_cons (pv 6) pa_nil)) pa_nil)) (pv 6) (nomark _)))))) (pss_one (ps_ret pe_bl)) pss_nil)
      (pss_cons (ps_if (pt_not (pt_cmpR (op_ownI (op := .Eq) (fun _ _ => rfl) T.eqs T.eqf GEq (hr.mono (by decide)) bEq pass0) (pe_call G_law_told (hr.mono (by decide)) (by rfl) T.m_law_told T.k_law_told b_law_told .nil pass0 (pa_cons (pe_join pe_str (pe_lc (own := [("_law_line", 15)]) (g := gName 15) (by rfl) sc_law.nd (pi_seq (K := K) rfl (pv 7)) (blkOk_by (own := [("_law_line", 15)]) (N := N_law) (sc := defScope s_law) (by decide +kernel)) (fun _ _ _ _ _ => pg_name (i := 15) sc_law.nd rfl (Or.inl rfl)) (fun _ _ _ _ _ => pts_nil) (fun _ _ _ _ _ => (pe_call G_law_loose (hr.mono (by decide)) (by rfl) T.m_law_loose T.k_law_loose b_law_loose .nil pass0 (pa_cons (pv 1) (pa_cons (pv 15) pa_nil)))))) pa_nil)) (pv 6) (nomark _))) (pss_one (ps_ret pe_bl)) pss_nil)
      (pss_cons (ps_set (i := 9) sc_law.nd rfl (Or.inl rfl) (pe_lst (pa_cons pe_str (pa_cons pe_str (pa_cons pe_str (pa_cons pe_str (pa_cons pe_str (pa_cons pe_str (pa_cons pe_str (pa_cons pe_str (pa_cons pe_str (pa_cons pe_str (pa_cons pe_str pa_nil)))))))))))))
      (pss_cons (ps_for (passes_of rfl) rfl (pi_range1 (by rfl) T.range (pa_cons pe_int pa_nil)) (pg_name (i := 10) sc_law.nd rfl (Or.inl rfl)) (pss_cons (ps_set (i := 11) sc_law.nd rfl (Or.inl rfl) (pv 7))
      (pss_cons (ps_for (passes_of rfl) rfl (pi_range1 (by rfl) T.range (pa_cons (pe_op op_add pe_int (pe_call G_law_draw (hr.mono (by decide)) (by rfl) T.m_law_draw T.k_law_draw b_law_draw .nil pass0 (pa_cons (pv 1) (pa_cons pe_int pa_nil)))) pa_nil)) (pg_name (i := 12) sc_law.nd rfl (Or.inl rfl)) (pss_one (ps_set (i := 11) sc_law.nd rfl (Or.inl rfl) (pe_call G_law_bent (hr.mono (by decide)) (by rfl) T.m_law_bent T.k_law_bent b_law_bent .nil pass0 (pa_cons (pv 1) (pa_cons (pe_ifExp (pt_cmpR (op_neD hr.units) (pv 11) (pe_lst pa_nil) (nomark _)) (pv 11) (pe_lst (pa_cons pe_str pa_nil))) (pa_cons (pv 9) pa_nil)))))))
      (pss_cons (ps_set (i := 13) sc_law.nd rfl (Or.inl rfl) (pe_join pe_str (pv 11)))
      (pss_one (ps_if (pt_not (pt_cmpR (op_or2 op_eq (op_ownI (op := .Eq) (fun _ _ => rfl) T.eqs T.eqf GEq (hr.mono (by decide)) bEq pass0)) (pe_call G_law_told (hr.mono (by decide)) (by rfl) T.m_law_told T.k_law_told b_law_told .nil pass0 (pa_cons (pv 13) pa_nil)) (pe_call G_law_read (hr.mono (by decide)) (by rfl) T.m_law_read T.k_law_read b_law_read .nil passL (pa_cons (pv 13) pa_nil)) (nomark _))) (pss_one (ps_ret pe_bl)) pss_nil))))))
      (pss_one (ps_if (PW.pt (pw_or (pt_cmpR op_ne (pe_call G_law_told (hr.mono (by decide)) (by rfl) T.m_law_told T.k_law_told b_law_told .nil pass0 (pa_cons pe_str pa_nil)) pe_int (nomark _)) (pw_or1 (pt_cmpR op_ne (pe_call G_law_told (hr.mono (by decide)) (by rfl) T.m_law_told T.k_law_told b_law_told .nil pass0 (pa_cons (pe_ix ix_list (pv 7) pe_int (fun _ _ => rfl)) pa_nil)) pe_int (nomark _))))) (pss_one (ps_ret pe_bl)) pss_nil))))))))))
      (pss_one (ps_ret pe_bl)))), ?_⟩
    refine ⟨_, rfl, a, ns, rfl, hS, hlen, fun p c H1 hpn hcn hp1 s1 => ?_⟩
    have hmn : ∀ l : Nat, 0 ≤ 4 + (if (l : Int) < 6 then (l : Int) else 6) ∧ 4 + (if (l : Int) < 6 then (l : Int) else 6) ≤ 10 := fun l => by split <;> omega
    have hJ1 := hmn (ns.map V.int).length
    refine ⟨_, rfl, _, _, rfl, Or.inl ⟨_, (Kl.same s1).seq hS, rfl⟩, _, _, rfl, _, _, rfl, rfl, _, rfl, (by show -(2 ^ 62) ≤ 4 + (if ((ns.map V.int).length : Int) < 6 then ((ns.map V.int).length : Int) else 6); omega), (by show 4 + (if ((ns.map V.int).length : Int) < 6 then ((ns.map V.int).length : Int) else 6) < 2 ^ 62; omega),
      for_range (n := (4 + (if ((ns.map V.int).length : Int) < 6 then ((ns.map V.int).length : Int) else 6)).toNat) (fun i σ H2 => ∃ v2 v3 v4 v5 v6 v7 v8 v9 v10 v11 v12 v13 v14 v15 : Option V, σ = [some (.ref a), some (.ref p), v2, v3, v4, v5, v6, v7, v8, v9, v10, v11, v12, v13, v14, v15] ∧ Pen H2 p c (i * 4000))
      ⟨none, none, none, none, none, none, none, none, none, none, none, none, none, none, rfl, hp1⟩ ?_ ?_⟩
    · rintro i σ H2 hi ⟨v2, v3, v4, v5, v6, v7, v8, v9, v10, v11, v12, v13, v14, v15, rfl, hp2⟩
      have hi10 : i < 10 := by omega
      refine ⟨_, rfl, _, rfl, _, rfl, p, c, 3, _, rfl, hp2, by omega, by decide, by decide, fun d H3 d0 d1 hp3 k3 => ⟨_, _, rfl, rfl, ?_⟩⟩
      obtain ⟨m, hm⟩ : ∃ m : Nat, 1 + d = m := ⟨(1 + d).toNat, by omega⟩
      refine ⟨p, c, m, _, (by show [V.ref p, V.int (1 + d)] = [V.ref p, V.int m]; rw [hm]), hp3, by omega, by omega, fun z H4 hz hp4 k4 => ?_⟩
      obtain ⟨hzl, hzs, hzc⟩ := hz
      have hzk : okZ (TL.tl z) = true := by
        unfold okZ
        rw [Bool.and_eq_true, Bool.and_eq_true, Bool.and_eq_true, decide_eq_true_eq, decide_eq_true_eq, decide_eq_true_eq, List.all_eq_true, ← TL.len_tl]
        refine ⟨⟨by omega, by omega⟩, fun c' hc' => ?_, hzs⟩
        have := hzc c' hc'
        rw [Bool.and_eq_true, decide_eq_true_eq, decide_eq_true_eq]
        exact this
      have hz3 : z.length ≤ 3 := by omega
      have hz1 : 1 ≤ z.length := by omega
      clear hp2 hp3 k3 k4
      refine ⟨p, c, z, 8, _, rfl, hp4, by omega, by decide, by decide, by omega, fun t H5 gs es hSD hg hgl hes hel hel0 hp5 k5 => ?_⟩
      clear hp4 k5
      obtain ⟨R, G, rs0, ht, hR, hrs, hG⟩ := id hSD
      have lr : rs0.length = gs.length := hrs.1
      have hgp : 0 < gs.length := hg.2
      have hzs' : z.length ≤ sizeLine := Nat.le_of_lt (small1000 (by omega))
      have hRw : Dp K H5 (.ref R) (rowsID gs) := Dp.lst (SqL.of hR) (dpAll_gs hrs.1 fun i r row h1 h2 => hrs.2 i r row h1 h2)
      refine ⟨t, _, rfl, SqT.of ht, rfl, _, _, rfl, _, _, rfl, _, _, rfl, rfl, ?_⟩
      refine ⟨_, rfl, _, rfl, _, rfl, fun o dx ho hdx ne => mk_ok ho hdx ne (Or.inl hRw) hG hg hes (by omega) (by omega) (by omega) (fun H6 s6 hM => ⟨rfl, ?_⟩)⟩
      have hls : (headS z).length ≤ 20 := (headS_ok hzk).1
      refine ⟨_, rfl, _, _, rfl, rfl, Nat.le_of_lt (small1000 (by show ("shape " : Str).length + z.length ≤ 1000; rw [show ("shape " : Str).length = 6 by decide +kernel]; omega)), by show 1 ≤ sizeLine; decide, fun D hD => ⟨_, _, rfl, ?_⟩⟩
      have hR6 := s6 _ _ hR
      have hG6 := s6 _ _ hG
      have hp6 := hp5.same s6
      have hD7 : (L2.upd H6 D (.lst [V.str ("shape " ++ z)])) D = some (.lst ((linesJ z gs es 0).map V.str)) := upd_same
      have s67 : Same H6 (L2.upd H6 D (.lst [V.str ("shape " ++ z)])) := same_new hD
      change tSeq _ _ _ _ (L2.upd H6 D (.lst [V.str ("shape " ++ z)]))
      generalize L2.upd H6 D (.lst [V.str ("shape " ++ z)]) = H7 at hD7 s67 ⊢
      refine ⟨_, rfl, _, _, rfl, Or.inl ⟨_, SqL.of (s67 _ _ hR6), rfl⟩, _, rfl, by omega, by rw [List.length_map]; omega, for_range (n := (rs0.map V.ref).length) (fun j σ H8 => ∃ v2 v8 v14 v15 : Option V, σ = [some (.ref a), some (.ref p), v2, some (.str z), some (.ref R), some (.ref G), some (.ref o), some (.ref D), v8, v9, v10, v11, v12, v13, v14, v15] ∧
        H8 D = some (.lst ((linesJ z gs es j).map V.str)) ∧ Same H6 H8) ⟨_, v8, v14, v15, rfl, hD7, s67⟩ ?_ ?_⟩
      · rintro j σ H8 hj ⟨v2, v8, v14, v15, rfl, hD8, s8⟩
        rw [List.length_map, lr] at hj
        have hjr : j < rs0.length := by omega
        have hrow8 := s8 _ _ (s6 _ _ (hrs.2 j _ _ (List.getElem?_eq_getElem hjr) (List.getElem?_eq_getElem hj)))
        obtain ⟨r1, r2⟩ := good_row hg hj
        have hlj : (linesJ z gs es j).length = j + 1 := by unfold linesJ; rw [List.length_cons, List.length_map, List.length_range]
        refine ⟨_, rfl, Or.inl ⟨rfl, _, SqL.of hD8⟩, ⟨_, rfl⟩, _, rfl, _, rfl, R, _, _, .ref rs0[j], rfl, rfl, SqL.of (s8 _ _ hR6), at_of' (show ((0 : Int) + (j : Nat)) = ((j : Nat) : Int) by omega) (by rw [List.getElem?_map, List.getElem?_eq_getElem hjr]; rfl), rs0[j], _, rfl, Or.inl (SqL.of hrow8), fun J hJ A1 hA1 => lc_it hJ (fun k H9 => H9 A1 = some (.lst (((gs[j].take k).map fun g => Str.ofString (toString g)).map V.str)) ∧ Same H8 H9) ⟨upd_same, same_new hA1⟩ (fun k H9 _ ⟨_, s9⟩ => GSq.same s9) ?_ ?_⟩
        · rintro k x H10 H9 hk ⟨hA9, s9⟩ ⟨rfl, hx⟩
          rw [List.length_map] at hk
          obtain rfl : V.int (gs[j][k]) = x := by
            rw [List.getElem?_map, List.getElem?_eq_getElem hk] at hx
            exact Option.some.inj hx
          have hb := r2 _ (List.getElem_mem hk)
          refine ⟨rfl, ?_⟩
          refine lcYes ?_
          refine ⟨_, rfl, _, rfl, PySem.Flt.log2_lt_of (by decide) (by have : gs[j][k].natAbs < 2 ^ 100 := by omega
                                                                       exact Nat.lt_of_lt_of_le this (by decide)), _, hA9, by rw [List.length_map, List.length_map, List.length_take]; exact small1000 (by omega), ?_, s9.put hA1⟩
          rw [upd_same, take_more hk, List.map_append, List.map_append]; rfl
        · rintro H9 ⟨hA9, s9⟩
          rw [List.length_map, List.take_length] at hA9
          have hG9 := s9 _ _ (s8 _ _ hG6)
          refine good_if rfl rfl hG9 fun A2 H10 hA2 s10 hA2' => ?_
          have hgl2 : (if (j : Int) ∈ es then [("good" : Str)] else []).length ≤ 1 := by split <;> decide
          refine ⟨A1, A2, _, _, rfl, rfl, s10 _ _ hA9, hA2', Nat.le_of_lt (small1000 (by rw [List.length_map, List.length_map, List.length_map]; omega)), fun A3 hA3 => ?_⟩
          have s11 := (s9.trans s10).trans (same_new (o := .lst (((gs[j].map fun g => Str.ofString (toString g)).map V.str) ++ (if (j : Int) ∈ es then [("good" : Str)] else []).map V.str)) hA3)
          have hD11 := s11 _ _ hD8
          refine ⟨" ", A3, (gs[j].map fun g => Str.ofString (toString g)) ++ (if (j : Int) ∈ es then [("good" : Str)] else []), rfl, rfl, Or.inl (SqL.of (by rw [upd_same, List.map_append])), ?_, ?_⟩
          · refine Nat.le_trans (Nat.add_le_add_right (sum_le (B := 4) fun y hy => ?_) _) ?_
            · rcases List.mem_append.mp hy with q | q
              · obtain ⟨g, hg', rfl⟩ := List.mem_map.mp q
                obtain ⟨g0, g1⟩ := r2 g hg'
                obtain ⟨k', rfl⟩ : ∃ k' : Nat, g = k' := ⟨g.toNat, by omega⟩
                exact Nat.le_trans (int_small k' (by omega)) (by decide)
              · split at q
                · rw [List.mem_singleton.mp q]; decide +kernel
                · cases q
            · rw [show (" " : Str).length = 1 by decide +kernel, List.length_append, List.length_map]
              omega
          · refine ⟨D, _, _, rfl, rfl, hD11, small1000 (by rw [List.length_map, hlj]; omega), _, _, _, _, rfl, ?_, (s8.trans s11).put hD⟩
            have hgd : gs.getD j [] = gs[j] := by rw [List.getD_eq_getElem?_getD, List.getElem?_eq_getElem hj, Option.getD_some]
            rw [upd_same, linesJ_succ, List.map_append, hgd, ← lawLine_eq (fun g hg' => (r2 g hg').1) (fun q => by rw [q] at r1; simp at r1; omega)]
            rfl
      · rintro σ H8 ⟨v2, v8, v14, v15, rfl, hD8, s8⟩
        rw [List.length_map, lr, linesJ_all] at hD8
        have hM8 := hM.same s8
        have hp8 := hp6.same s8
        have hlok := linesS_ok (es := es) hzk hg (by omega)
        have hll : (linesS z gs es).length = gs.length + 1 := by unfold linesS; rw [List.length_cons, List.length_mapIdx]
        have hjok := joined_ok hlok
        rw [hll] at hjok
        obtain ⟨es', hrd, hes'⟩ := read_str (es := es) hzk hg (by omega) hes
        rw [strS_lines] at hrd
        have htot : tot (linesS z gs es) ≤ 189 + 0 * 90 := by
          unfold tot
          have h1 := sum_le (B := 20) fun y hy => (hlok y hy).1
          rw [hll] at h1 ⊢
          have : (gs.length + 1) * 20 ≤ 9 * 20 := Nat.mul_le_mul_right _ (by omega)
          have h2 : ((linesS z gs es).map (·.length)).sum ≤ 180 := by omega
          show ((linesS z gs es).map (·.length)).sum + _ ≤ _
          omega
        have hsum : ((linesS z gs es).map fun x => x.length).sum + (linesS z gs es).length * ("\n" : Str).length ≤ 16777216 := by
          have h1 := sum_le (B := 20) fun y hy => (hlok y hy).1
          rw [show ("\n" : Str).length = 1 by decide +kernel]
          rw [hll] at h1 ⊢
          have : (gs.length + 1) * 20 ≤ 9 * 20 := Nat.mul_le_mul_right _ (by omega)
          omega
        have hjl : (Txt.join "\n" (linesS z gs es)).length ≤ 600 := by
          have : (gs.length + 1) * 21 ≤ 9 * 21 := Nat.mul_le_mul_right _ (by omega)
          omega
        refine ⟨_, rfl, ?_⟩
        dsimp only [tNil]
        refine str_okS hM8 hg (by omega) (by omega) (by omega) hes fun H9 s9 => ?_
        refine ⟨⟨_, rfl⟩, _, rfl, "\n", D, linesS z gs es, rfl, rfl, Or.inl (SqL.of (s9 _ _ hD8)), hsum, rfl, _, rfl, ite2 (fun c => absurd c (by simp)) (fun _ => ?_)⟩
        have hM9 := hM8.same s9
        refine ⟨rfl, _, rfl, ?_⟩
        dsimp only [tNil]
        refine str_okS hM9 hg (by omega) (by omega) (by omega) hes fun H10 s10 => ?_
        refine ⟨_, rfl, hjl, by omega, fun i hi => (nomatch (hi.symm.trans hrd)), fun z' gs' es2 hz' o2 H11 s11 hM11 => ?_⟩
        have ez := hrd.symm.trans hz'
        injection ez with ez1 ez2 ez3
        subst ez1 ez2 ez3
        rw [mkS_tl] at hM11
        have hM11' := hM9.same (s10.trans s11)
        refine ⟨_, rfl, eq_ok hM11 hM11' true ⟨fun _ => ⟨rfl, rfl, hes'⟩, fun _ => rfl⟩ fun H12 s12 => ⟨_, rfl, ite2 (fun c => absurd c (by decide)) (fun _ => ?_)⟩⟩
        have s812 : Same H8 H12 := ((s9.trans s10).trans s11).trans s12
        have hM12 := hM8.same s812
        have hD12 := s812 _ _ hD8
        have hp12 : Pen H12 p c (i * 4000 + 104) := (hp8.same s812).mono (by omega)
        clear hM11 hM11' hM9 s9 s10 s11 s12 s812 hM8 hD8 hp8 s8 hp5 hp6
        obtain ⟨kv0, hk0⟩ := id hp12.dk
        have nDp : D ≠ p := ne_of hD12 hk0 (fun z => nomatch z)
        refine ⟨⟨_, rfl⟩, _, rfl, D, _, rfl, Or.inl (SqL.of hD12), fun J hJ A1 hA1 => lc_it hJ (fun k H13 => ∃ ys : List Str, H13 A1 = some (.lst (ys.map V.str)) ∧ Forall2 (fun (y x : Str) => wordsOf (TL.tl y) = wordsOf (TL.tl x) ∧ TxOk 62 y) ys ((linesS z gs es).take k) ∧ Pen H13 p c (i * 4000 + 104 + k * 202) ∧ Kp p H12 H13) ⟨[], upd_same, ⟨rfl, fun i x y e1 e2 => nomatch e1⟩, hp12.same (same_new hA1), Kp.of (same_new hA1)⟩ (fun k H13 _ ⟨_, _, _, _, k13⟩ => gsq_lst hD12 (k13 _ _ hD12 nDp)) ?_ ?_⟩
        · rintro k x H14 H13 hk ⟨ys, hA13, hf, hp13, k13⟩ ⟨rfl, hx⟩
          rw [List.length_map] at hk
          obtain rfl : V.str ((linesS z gs es)[k]) = x := by
            rw [List.getElem?_map, List.getElem?_eq_getElem hk] at hx
            exact Option.some.inj hx
          have hok := hlok _ (List.getElem_mem hk)
          obtain ⟨nA1p, nA1c⟩ := hp12.new hA1
          refine ⟨rfl, ?_⟩
          refine lcYes ?_
          refine ⟨_, rfl, _, rfl, p, c, _, _, rfl, hp13, by omega, by have := hok.1; omega, fun y H15 hy1 hy2 hy3 hp15 k15 => ?_⟩
          have hyl : ys.length = k := by rw [hf.1, List.length_take]; omega
          have hyok : TxOk 62 y := ⟨by have := hok.1; omega, fun d hd => by
            rcases hy3 d hd with q | q
            · exact hok.2.1 d q
            · omega, fun hd => by
            rcases hy3 10 hd with q | q
            · exact hok.2.2 q
            · cases q⟩
          refine ⟨_, k15 _ _ hA13 nA1p, by rw [List.length_map]; exact small1000 (by omega), ys ++ [y], by rw [upd_same, List.map_append]; rfl, ?_, (hp15.put nA1p nA1c).mono (by omega), (k13.trans k15).put hA1⟩
          rw [take_more hk]
          exact hf.snoc ⟨hy1, hyok⟩
        · rintro H13 ⟨ys, hA13, hf, hp13, k13⟩
          rw [List.length_map, List.take_length] at hf
          rw [List.length_map, hll] at hp13
          have hyl : ys.length = gs.length + 1 := by rw [hf.1, hll]
          have hyok : ∀ y ∈ ys, TxOk 62 y := fun y hy => by
            obtain ⟨k', hk', rfl⟩ := List.getElem_of_mem hy
            exact (hf.2 k' _ _ (List.getElem?_eq_getElem hk') (List.getElem?_eq_getElem (by rw [← hf.1]; exact hk'))).2
          have hyj := joined_ok hyok
          rw [hyl] at hyj
          have hyne : ys ≠ [] := fun q => by rw [q] at hyl; cases hyl
          have htx : textL (TL.tl (Txt.join "\n" ys)) = textL (TL.tl (Txt.join "\n" (linesS z gs es))) := by
            rw [textL_join hyne fun y hy => (hyok y hy).2.2, textL_join (show linesS z gs es ≠ [] from List.cons_ne_nil _ _) fun y hy => (hlok y hy).2.2]
            refine List.ext_getElem (by rw [List.length_map, List.length_map, hf.1]) fun k' h1 h2 => ?_
            rw [List.getElem_map, List.getElem_map]
            rw [List.length_map] at h1 h2
            exact (hf.2 k' _ _ (List.getElem?_eq_getElem h1) (List.getElem?_eq_getElem h2)).1
          have hrd2 := (readS_congr htx).trans hrd
          have hM13 := hM12.kp k13 hk0
          have hD13 := k13 _ _ hD12 nDp
          have hb9 : (gs.length + 1) * 63 ≤ 9 * 63 := Nat.mul_le_mul_right _ (by omega)
          refine ⟨"\n", A1, ys, rfl, rfl, Or.inl (SqL.of hA13), sum_ok (B := 62) (fun y hy => (hyok y hy).1) (by rw [hyl]; omega), ?_⟩
          refine ⟨_, rfl, by omega, by omega, fun i hi => (nomatch (hi.symm.trans hrd2)), fun z' gs' es3 hz' o2 H14 s14 hM14 => ?_⟩
          have ez := hrd2.symm.trans hz'
          injection ez with ez1 ez2 ez3
          subst ez1 ez2 ez3
          rw [mkS_tl] at hM14
          refine ⟨_, rfl, eq_ok hM14 (hM13.same s14) true ⟨fun _ => ⟨rfl, rfl, hes'⟩, fun _ => rfl⟩ fun H15 s15 => ⟨_, rfl, ite2 (fun c => absurd c (by decide)) (fun _ => ?_)⟩⟩
          have s1315 := s14.trans s15
          have hD15 := s1315 _ _ hD13
          have hp15 := hp13.same s1315
          clear hM14 hM13 s14 s15 s1315 hD13 hp13 hf hA13 k13 hM12 hD12 hp12 hk0
          refine ⟨by show 11 ≤ sizeLine; decide, fun O hO => ?_⟩
          have hO16 : (L2.upd H15 O (.lst (odds.map V.str))) O = some (.lst (odds.map V.str)) := upd_same
          have s16 : Same H15 (L2.upd H15 O (.lst (odds.map V.str))) := same_new hO
          change gName 9 (V.ref O) _ (L2.upd H15 O (.lst (odds.map V.str))) _
          have hp16 : Pen (L2.upd H15 O (.lst (odds.map V.str))) p c (i * 4000 + 2000) := (hp15.same s16).mono (by omega)
          have hD16 := s16 _ _ hD15
          generalize L2.upd H15 O (.lst (odds.map V.str)) = H16 at hO16 hp16 hD16 ⊢
          refine ⟨8, rfl, by decide, by decide, for_range (n := 8) (fun q σ H17 => ∃ v2 v8 v10 v11 v12 v13 v14 v15 : Option V, σ = [some (.ref a), some (.ref p), v2, some (.str z), some (.ref R), some (.ref G), some (.ref o), some (.ref D), v8, some (.ref O), v10, v11, v12, v13, v14, v15] ∧
            H17 D = some (.lst ((linesS z gs es).map V.str)) ∧ H17 O = some (.lst (odds.map V.str)) ∧ Pen H17 p c (i * 4000 + 2000 + q * 10)) ⟨_, _, _, _, _, _, _, _, rfl, hD16, hO16, hp16⟩ ?_ ?_⟩
          · rintro q σ H17 hq ⟨v2, v8, v10, v11, v12, v13, v14, v15, rfl, hD17, hO17, hp17⟩
            obtain ⟨kv1, hk1⟩ := id hp17.dk
            have nDp : D ≠ p := ne_of hD17 hk1 (fun z => nomatch z)
            have nOp : O ≠ p := ne_of hO17 hk1 (fun z => nomatch z)
            refine ⟨_, rfl, ?_⟩
            refine g_name ?_
            dsimp only
            refine ⟨_, rfl, p, c, 2, _, rfl, hp17, by omega, by decide, by decide, fun d H18 d0 d1 hp18 k18 => ⟨_, _, rfl, rfl, _, rfl, by omega, by omega, ?_⟩⟩
            obtain ⟨dn, rfl⟩ : ∃ dn : Nat, d = dn := ⟨d.toNat, by omega⟩
            refine for_range (n := ((1 : Int) + (dn : Nat)).toNat) (fun u σ H19 => ∃ (v2 v8 v10 v12 v13 v14 v15 : Option V) (r : Addr) (ys : List Str), σ = [some (.ref a), some (.ref p), v2, some (.str z), some (.ref R), some (.ref G), some (.ref o), some (.ref D), v8, some (.ref O), v10, some (.ref r), v12, v13, v14, v15] ∧
              H19 r = some (.lst (ys.map V.str)) ∧ ys.length ≤ 9 + 2 * u ∧ tot ys ≤ 189 + u * 90 ∧ (∀ y ∈ ys, TxOk (20 + 31 * u) y) ∧ H19 D = some (.lst ((linesS z gs es).map V.str)) ∧ H19 O = some (.lst (odds.map V.str)) ∧ Pen H19 p c (i * 4000 + 2000 + q * 10 + 1 + u * 4)) ⟨_, _, _, _, _, _, _, D, linesS z gs es, rfl, k18 _ _ hD17 nDp, by omega, htot, hlok, k18 _ _ hD17 nDp, k18 _ _ hO17 nOp, hp18⟩ ?_ ?_
            · rintro u σ H19 hu' ⟨v2, v8, v10, v12, v13, v14, v15, r, ys, rfl, hr19, hyl, hyt, hyo, hD19, hO19, hp19⟩
              have hu2 : u < 2 := by omega
              refine ⟨_, rfl, or_empty rfl hr19 (fun y hy => (hyo y hy).2.1) fun A xs H20 s20 hA hx1 hx2 hxt hx3 => ?_⟩
              have hxo : ∀ x ∈ xs, TxOk (20 + 31 * u) x := fun x hx => by
                rcases hx3 x hx with e | e
                · exact hyo x e
                · rw [e]; exact (odds_ok "" List.mem_cons_self).mono (by omega)
              refine ⟨_, rfl, p, c, A, O, xs, odds, _, 20 + 31 * u, rfl, hp19.same s20, by omega, hA, s20 _ _ hO19, hx1, by omega, hxo, by decide, by decide, odds_ok, by omega, by omega, fun r' ys' H21 hr21 hyl' hyo' hyt' hp21 k21 => ?_⟩
              exact ⟨_, _, _, _, _, _, _, r', ys', rfl, hr21, by omega, by omega, fun y hy => (hyo' y hy).mono (by omega), k21 _ _ (s20 _ _ hD19) nDp, k21 _ _ (s20 _ _ hO19) nOp, hp21.mono (by omega)⟩
            · rintro σ H19 ⟨v2, v8, v10, v12, v13, v14, v15, r, ys, rfl, hr19, hyl, hyt, hyo, hD19, hO19, hp19⟩
              have hu2 : ((1 : Int) + (dn : Nat)).toNat ≤ 2 := by omega
              have hjo := joined_ok hyo
              have htl : (Txt.join "\n" ys).length ≤ 600 := by
                have h1 := StrLaws.join_length_le ("\n" : Str) ys
                rw [show ("\n" : Str).length = 1 by decide +kernel] at h1
                rw [TL.join_eq]
                unfold tot at hyt
                have : ((1 : Int) + (dn : Nat)).toNat * 90 ≤ 2 * 90 := Nat.mul_le_mul_right _ hu2
                omega
              have hso : (ys.map fun x => x.length).sum + ys.length * ("\n" : Str).length ≤ 16777216 := by
                rw [show ("\n" : Str).length = 1 by decide +kernel]
                have : ((1 : Int) + (dn : Nat)).toNat * 90 ≤ 2 * 90 := Nat.mul_le_mul_right _ hu2
                unfold tot at hyt
                have h2 : (ys.map fun x => x.length).sum + ys.length ≤ 400 := by omega
                omega
              refine ⟨⟨_, rfl⟩, _, rfl, "\n", r, ys, rfl, rfl, Or.inl (SqL.of hr19), hso, ?_⟩
              generalize Txt.join "\n" ys = tx at hjo htl ⊢
              have fin : ∀ H20, Same H19 H20 → ∀ σ : L2.St, (∃ v2 v8 v10 v11 v12 v13 v14 v15 : Option V, σ = [some (.ref a), some (.ref p), v2, some (.str z), some (.ref R), some (.ref G), some (.ref o), some (.ref D), v8, some (.ref O), v10, v11, v12, v13, v14, v15]) → ∃ v2 v8 v10 v11 v12 v13 v14 v15 : Option V, σ = [some (.ref a), some (.ref p), v2, some (.str z), some (.ref R), some (.ref G), some (.ref o), some (.ref D), v8, some (.ref O), v10, v11, v12, v13, v14, v15] ∧
                  H20 D = some (.lst ((linesS z gs es).map V.str)) ∧ H20 O = some (.lst (odds.map V.str)) ∧ Pen H20 p c (i * 4000 + 2000 + (q + 1) * 10) := fun H20 s20 σ hσ => by
                obtain ⟨v2, v8, v10, v11, v12, v13, v14, v15, rfl⟩ := hσ
                exact ⟨_, _, _, _, _, _, _, _, rfl, s20 _ _ hD19, s20 _ _ hO19, (hp19.same s20).mono (by omega)⟩
              refine ⟨_, rfl, tx, rfl, htl, by omega, fun i' hi' H20 s20 => ?_, fun z' gs' es3 hz' o2 H20 s20 hM20 => ?_⟩
              · refine ⟨_, rfl, tx, rfl, htl, by omega, hjo.2.1, fun i2 hi2 H21 s21 => Or.inl ⟨rfl, _, rfl, ?_⟩, fun z' gs' es3 hz' => (nomatch (hz'.symm.trans hi'))⟩
                have ez := hi'.symm.trans hi2
                injection ez with ez
                subst ez
                exact ite2 (fun c => absurd c (by simp)) (fun _ => fin _ (s20.trans s21) _ ⟨_, _, _, _, _, _, _, _, rfl⟩)
              · refine ⟨_, rfl, tx, rfl, htl, by omega, hjo.2.1, fun i2 hi2 => (nomatch (hz'.symm.trans hi2)), fun z2 gs2 es2 hz2 o3 H21 s21 hM21 => Or.inr ?_⟩
                have ez := hz'.symm.trans hz2
                injection ez with ez1 ez2 ez3
                subst ez1 ez2 ez3
                exact eq_ok (hM20.same s21) hM21 true ⟨fun _ => ⟨rfl, rfl, fun _ => Iff.rfl⟩, fun _ => rfl⟩ fun H22 s22 => ⟨_, rfl, ite2 (fun c => absurd c (by decide)) (fun _ => fin _ ((s20.trans s21).trans s22) _ ⟨_, _, _, _, _, _, _, _, rfl⟩)⟩
          · rintro σ H17 ⟨v2, v8, v10, v11, v12, v13, v14, v15, rfl, hD17, hO17, hp17⟩
            have hhl := (headS_ok hzk).1
            refine ⟨"", rfl, by decide +kernel, by decide +kernel, fun i1 hi1 H18 s18 => ?_, fun z' gs' es3 hz' => (nomatch (read_none.symm.trans hz'))⟩
            have ez := read_none.symm.trans hi1
            injection ez with ez
            subst ez
            refine ⟨rfl, _, rfl, ite2 (fun c => absurd c (by simp)) (fun _ => ?_)⟩
            refine ⟨_, rfl, D, _, 0, .str (headS z), rfl, rfl, SqL.of (s18 _ _ hD17), at_of' (show (0 : Int) = ((0 : Nat) : Int) from rfl) rfl, headS z, rfl, by omega, ?_, fun i2 hi2 H19 s19 => ?_, fun z' gs' es3 hz' => (nomatch ((read_head hzk).symm.trans hz'))⟩
            · have e1 : Txt.join "\n" [headS z] = headS z := TL.ext_tl (by rw [TL.join_eq, TL.tl_join]; rfl)
              have := (joined_ok (ys := [headS z]) (B := 20) fun y hy => by rw [List.mem_singleton.mp hy]; exact headS_ok hzk).2.2
              rw [e1] at this
              exact Nat.le_trans this (by rw [List.length_singleton]; decide)
            · have ez := (read_head hzk).symm.trans hi2
              injection ez with ez
              subst ez
              refine ⟨rfl, _, rfl, ite2 (fun c => absurd c (by simp)) (fun _ => ?_)⟩
              exact ⟨_, _, _, _, _, _, _, _, _, _, _, _, _, _, rfl, (hp17.same (s18.trans s19)).mono (by omega)⟩
    · rintro σ H2 ⟨v2, v3, v4, v5, v6, v7, v8, v9, v10, v11, v12, v13, v14, v15, rfl, hp2⟩
      exact k H2
end
end Vf
set_option Elab.async false
set_option linter.all false
set_option maxRecDepth 100000
set_option maxHeartbeats 4000000
/-! raise C(): an own class over an own class over ValueError, without __init__, without arguments -/
namespace Vf
open PySem L2 PyProof.Rows
theorem pmk_own0 {X : Cx} {C : Addr} {bmB : List Value} {B newId initId : String} {x : Str} {p pos : Pos} (F : ExcBaseFacts B newId initId bmB) (q : PySem.W.excIn X.K C bmB newId = true) (gC : X.mg x = some (.ref C)) (kC : PySem.W.keepIn X.K (.ref C) = true) (r : Raises X (.ref C)) (hg : Gl X x)
    (hdb : (x == ("__debug__" : Str)) = false := by decide) : PMk X (.Call (.Name x p) [] [] pos) (fun _ H Q => Q (.ref C) none H) := by
  intro pins s σ H Q I h
  refine wpAny_Call_Name_kw (ld_glob I hg gC ?_ hdb)
  obtain ⟨hp1, g1, d1, tk1, os1⟩ := s
  refine PySem.W.callWith_K0 (first := []) I.kIn kC ?_
  obtain ⟨bm, N, nm, qn, bs, hdct, sn, sub, ab, col, dd, k0, k1, k2, k3, k5, mN, hC, hN, hni, T⟩ := exc_obj I.kIn q
  refine wpAny_call_exc_subT F T hC hN hni (fun h' e hm => ?_) (Nat.zero_le _)
  exact mk_of I hm r h (I.hok.gone hm.new)
/-- what is asked of such a class -/
structure PlainE (K : PySem.W.Frag) (mg : Str → Option Value) (x : Str) (C : Addr) (bmB : List Value) (newId : String) : Prop where
  q : PySem.W.excIn K C bmB newId = true
  g : mg x = some (.ref C)
  k : PySem.W.keepIn K (.ref C) = true
  s : PySem.W.subIn K (.ref C) (.type "BaseException") = some true
  t : PySem.W.typeIn K (.ref C) = some (.type "type")
theorem pmk_plain {X : Cx} {C : Addr} {bmB : List Value} {B newId initId : String} {x : Str} {p pos : Pos} (F : ExcBaseFacts B newId initId bmB) (T : PlainE X.K X.mg x C bmB newId) (hg : Gl X x) (hdb : (x == ("__debug__" : Str)) = false := by decide) : PMk X (.Call (.Name x p) [] [] pos) (fun _ H Q => Q (.ref C) none H) :=
  pmk_own0 F T.q T.g T.k (raises_own T.s T.t) hg hdb
end Vf
namespace Vf
open PySem L2 PyProof.Rows
/-- a call without arguments of a function that a name holds, in a try: the promise depends on the slots -/
def tCallV0V (i : Nat) (f : Addr) (S : Hp → Prop) (sp : Sp) (E : L2.St → XK) : TE := fun σ H Q => σ[i]? = some (some (.ref f)) ∧ S H ∧ sp [] H Q (E σ)
theorem pe_callV0V {X : Cx} {CX : CXT} {i k : Nat} {f : Addr} {S : Hp → Prop} {sp : Sp} {E : L2.St → XK} {x : Str} {p pos : Pos} (F : FV X.prog X.w X.K X.mg X.base CX k f S sp) (hr : Room k X.A) (hx : ∀ σ, PassesAt CX X σ (E σ)) (hN : X.N[i]? = some x) (hv : Vis X.env.scope x)
    (hd : (x == ("__debug__" : Str)) = false := by decide) (hcd : (x == ("__classdict__" : Str)) = false := by decide) : PE X (.Call (.Name x p) [] [] pos) (tCallV0V i f S sp E) := by
  refine ⟨fun pins s σ H Q I h => ?_⟩
  obtain ⟨hs, hS, q⟩ := h
  refine wpAny_Call_Name_kw (thn ((pe_var (pos := p) hN hv hd hcd).run pins s σ H (fun v H1 => v = .ref f ∧ H1 = H) I ⟨.ref f, hs, rfl, rfl⟩) fun u s1 ⟨v, H1, I1, r1, q1⟩ => ?_)
  obtain ⟨ev, eH⟩ := q1
  subst ev
  rw [eH] at I1
  have r1' : u = Value.ref f := r1
  subst r1'
  refine PySem.W.callWith_F0 (first := []) (F.fn H s1.heap I1.kIn I1.hok hS) ?_
  refine wpAny_call (codeAny_mono (F.run X.A X.stack s1 H [] [] Q (E σ) hr I1.env0 hS .nil q) fun rr s' hq => ?_)
  rcases rr with er | fl
  · exact hx σ pins H s1 er s' I1 hq
  · cases fl with
    | ret u => exact I1.after hq
    | next => exact hq.elim
    | brk => exact hq.elim
    | cont => exact hq.elim
end Vf
set_option Elab.async false
set_option linter.all false
set_option maxRecDepth 100000
set_option maxHeartbeats 4000000
namespace Vf
open PySem L2 PyProof.Rows
theorem kit_self {K : PySem.W.Frag} (C : Addr) : PySem.W.kitOne K (.ref C) (.ref C) = some true := by
  unfold PySem.W.kitOne
  rw [if_pos (by simp)]
theorem kit_tupC {K : PySem.W.Frag} {C : Addr} (h : PySem.W.hasDictIn K C = true) (ht : PySem.W.typeIn K (.ref C) = some (.type "type")) (hs : PySem.W.subIn K (.type "tuple") (.ref C) = some false) : PySem.W.kitOne K (.type "tuple") (.ref C) = some false := by
  have hc : (PySem.W.clsIn K C).isSome = true := by
    unfold PySem.W.hasDictIn at h
    cases e : PySem.W.clsIn K C with
    | none => rw [e] at h; cases h
    | some c => rfl
  unfold PySem.W.kitOne
  rw [if_neg (by intro q; have := beq_iff_eq.mp q; cases this)]
  have e2 : ((PySem.W.clsIn K C).isSome && PySem.W.typeIn K (.ref C) == some (.type "type")) = true := by rw [hc, ht] <;> rfl
  show (if ((PySem.W.clsIn K C).isSome && PySem.W.typeIn K (.ref C) == some (.type "type")) = true then PySem.W.subIn K (.type "tuple") (.ref C) else none) = some false
  rw [if_pos e2]
  exact hs
theorem kit_sub {K : PySem.W.Frag} {D C : Addr} (h : PySem.W.hasDictIn K C = true) (ht : PySem.W.typeIn K (.ref C) = some (.type "type")) (ne : D ≠ C) {b : Bool} (hs : PySem.W.subIn K (.ref D) (.ref C) = some b) : PySem.W.kitOne K (.ref D) (.ref C) = some b := by
  have hc : (PySem.W.clsIn K C).isSome = true := by
    unfold PySem.W.hasDictIn at h
    cases e : PySem.W.clsIn K C with
    | none => rw [e] at h; cases h
    | some c => rfl
  unfold PySem.W.kitOne
  rw [if_neg (by intro q; exact ne (Value.ref.inj (beq_iff_eq.mp q)))]
  have e2 : ((PySem.W.clsIn K C).isSome && PySem.W.typeIn K (.ref C) == some (.type "type")) = true := by rw [hc, ht] <;> rfl
  show (if ((PySem.W.clsIn K C).isSome && PySem.W.typeIn K (.ref C) == some (.type "type")) = true then PySem.W.subIn K (.ref D) (.ref C) else none) = some b
  rw [if_pos e2]
  exact hs
abbrev s_Shape___len__ : Stmt := inClass (top 12) 2
abbrev N_Shape___len__ : List Str := ["self"]
abbrev P_Shape___len__ : List Str := ["self"]
theorem sc_Shape___len__ : FnScope N_Shape___len__ P_Shape___len__ (defScope s_Shape___len__) := ⟨rfl, rfl, rfl, by decide +kernel, rfl, by decide +kernel, by decide +kernel⟩
abbrev s_Shape_step : Stmt := inClass (top 12) 6
abbrev N_Shape_step : List Str := ["self", "state", "value"]
abbrev P_Shape_step : List Str := ["self", "state", "value"]
theorem sc_Shape_step : FnScope N_Shape_step P_Shape_step (defScope s_Shape_step) := ⟨rfl, rfl, rfl, by decide +kernel, rfl, by decide +kernel, by decide +kernel⟩
theorem all_at {l : PySem.W.OpenLaw} {w : World} {K : PySem.W.Frag} {h : Heap} {mg : Str → Option Value} {fa fD fP fPen fLe fSh fWd fNu fAr fLo fBe fRd fTd fCG fCD fSP fAv fRL fRN fRG fLaw fI fLn fEq fSr fSt fBC fT fR pR C CB CT B  : Addr}
    {odD anD : Option Addr} {slD : Array (Option Value)} {ocD kVD dcD pmD ctD : Value} {cdD : Value}
    {odP anP : Option Addr} {slP : Array (Option Value)} {ocP kVP dcP pmP ctP : Value} {cdP : Value}
    {odPen anPen : Option Addr} {slPen : Array (Option Value)} {ocPen kVPen dcPen pmPen ctPen : Value} {cdPen : Value}
    {odLe anLe : Option Addr} {slLe : Array (Option Value)} {ocLe kVLe dcLe pmLe ctLe : Value} {cdLe : Value}
    {odSh anSh : Option Addr} {slSh : Array (Option Value)} {ocSh kVSh dcSh pmSh ctSh : Value} {cdSh : Value}
    {odWd anWd : Option Addr} {slWd : Array (Option Value)} {ocWd kVWd dcWd pmWd ctWd : Value} {cdWd : Value}
    {odNu anNu : Option Addr} {slNu : Array (Option Value)} {ocNu kVNu dcNu pmNu ctNu : Value} {cdNu : Value}
    {odAr anAr : Option Addr} {slAr : Array (Option Value)} {ocAr kVAr dcAr pmAr ctAr : Value} {cdAr : Value}
    {odLo anLo : Option Addr} {slLo : Array (Option Value)} {ocLo kVLo dcLo pmLo ctLo : Value} {cdLo : Value}
    {odBe anBe : Option Addr} {slBe : Array (Option Value)} {ocBe kVBe dcBe pmBe ctBe : Value} {cdBe : Value}
    {odRd anRd : Option Addr} {slRd : Array (Option Value)} {ocRd kVRd dcRd pmRd ctRd : Value} {cdRd : Value}
    {odTd anTd : Option Addr} {slTd : Array (Option Value)} {ocTd kVTd dcTd pmTd ctTd : Value} {cdTd : Value}
    {odCG anCG : Option Addr} {slCG : Array (Option Value)} {ocCG kVCG dcCG pmCG ctCG : Value} {cdCG : Value}
    {odCD anCD : Option Addr} {slCD : Array (Option Value)} {ocCD kVCD dcCD pmCD ctCD : Value} {cdCD : Value}
    {odSP anSP : Option Addr} {slSP : Array (Option Value)} {ocSP kVSP dcSP pmSP ctSP : Value} {cdSP : Value}
    {odAv anAv : Option Addr} {slAv : Array (Option Value)} {ocAv kVAv dcAv pmAv ctAv : Value} {cdAv : Value}
    {odRL anRL : Option Addr} {slRL : Array (Option Value)} {ocRL kVRL dcRL pmRL ctRL : Value} {cdRL : Value}
    {odRN anRN : Option Addr} {slRN : Array (Option Value)} {ocRN kVRN dcRN pmRN ctRN : Value} {cdRN : Value}
    {odRG anRG : Option Addr} {slRG : Array (Option Value)} {ocRG kVRG dcRG pmRG ctRG : Value} {cdRG : Value}
    {odLaw anLaw : Option Addr} {slLaw : Array (Option Value)} {ocLaw kVLaw dcLaw pmLaw ctLaw : Value} {cdLaw : Value}
    {odI anI : Option Addr} {slI : Array (Option Value)} {ocI kVI dcI pmI ctI : Value} {cdI : Value}
    {odLn anLn : Option Addr} {slLn : Array (Option Value)} {ocLn kVLn dcLn pmLn ctLn : Value} {cdLn : Value}
    {odEq anEq : Option Addr} {slEq : Array (Option Value)} {ocEq kVEq dcEq pmEq ctEq : Value} {cdEq : Value}
    {odSr anSr : Option Addr} {slSr : Array (Option Value)} {ocSr kVSr dcSr pmSr ctSr : Value} {cdSr : Value}
    {odSt anSt : Option Addr} {slSt : Array (Option Value)} {ocSt kVSt dcSt pmSt ctSt : Value} {cdSt : Value}
    {odBC anBC : Option Addr} {slBC : Array (Option Value)} {ocBC kVBC dcBC pmBC ctBC : Value} {cdBC : Value}
    {odT anT : Option Addr} {slT : Array (Option Value)} {ocT kVT dcT pmT ctT : Value} {cdT : Value}
    {odR anR : Option Addr} {slR : Array (Option Value)} {ocR kVR dcR pmR ctR : Value} {cdR : Value}
    {rsR : List Value}
    {ebnm ebq : Str} {ebN : Addr} {ebbs : List Value} {ebsn : List Str} {ebsub : List Value} {ebab : Bool} {ebcol : Option Bool} {ebdd : Option Addr} {ebm0 ebm1 ebm2 ebm3 ebm5 : Option Value}
    {etnm etq : Str} {etN : Addr} {etbs : List Value} {etsn : List Str} {etsub : List Value} {etab : Bool} {etcol : Option Bool} {etdd : Option Addr} {etm0 etm1 etm2 etm3 etm5 : Option Value}
    (X : K.In h) (G : h.Ns mainGlobals mg) (hfa : mg "law" = some (.ref fa))
    (aD : PySem.W.nsIn K mainGlobals "_law_draw" = some (some (.ref fD)))
    (lD : K.lookup fD = some ⟨ocD, odD, .func (PySem.W.fnOf "_law_draw" "_law_draw" (defArgs s__law_draw) (defBody s__law_draw) (defScope s__law_draw) .none kVD dcD pmD anD cdD ctD), slD⟩) (cD : PySem.W.codeIn K cdD "_law_draw" = true) (kD : PySem.W.keepIn K (.ref fD) = true)
    (aP : PySem.W.nsIn K mainGlobals "_law_pick" = some (some (.ref fP)))
    (lP : K.lookup fP = some ⟨ocP, odP, .func (PySem.W.fnOf "_law_pick" "_law_pick" (defArgs s__law_pick) (defBody s__law_pick) (defScope s__law_pick) .none kVP dcP pmP anP cdP ctP), slP⟩) (cP : PySem.W.codeIn K cdP "_law_pick" = true) (kP : PySem.W.keepIn K (.ref fP) = true)
    (aPen : PySem.W.nsIn K mainGlobals "_law_pen" = some (some (.ref fPen)))
    (lPen : K.lookup fPen = some ⟨ocPen, odPen, .func (PySem.W.fnOf "_law_pen" "_law_pen" (defArgs s__law_pen) (defBody s__law_pen) (defScope s__law_pen) .none kVPen dcPen pmPen anPen cdPen ctPen), slPen⟩) (cPen : PySem.W.codeIn K cdPen "_law_pen" = true) (kPen : PySem.W.keepIn K (.ref fPen) = true)
    (aLe : PySem.W.nsIn K mainGlobals "_law_letters" = some (some (.ref fLe)))
    (lLe : K.lookup fLe = some ⟨ocLe, odLe, .func (PySem.W.fnOf "_law_letters" "_law_letters" (defArgs s__law_letters) (defBody s__law_letters) (defScope s__law_letters) .none kVLe dcLe pmLe anLe cdLe ctLe), slLe⟩) (cLe : PySem.W.codeIn K cdLe "_law_letters" = true) (kLe : PySem.W.keepIn K (.ref fLe) = true)
    (aSh : PySem.W.nsIn K mainGlobals "_law_shape" = some (some (.ref fSh)))
    (lSh : K.lookup fSh = some ⟨ocSh, odSh, .func (PySem.W.fnOf "_law_shape" "_law_shape" (defArgs s__law_shape) (defBody s__law_shape) (defScope s__law_shape) .none kVSh dcSh pmSh anSh cdSh ctSh), slSh⟩) (cSh : PySem.W.codeIn K cdSh "_law_shape" = true) (kSh : PySem.W.keepIn K (.ref fSh) = true)
    (aWd : PySem.W.nsIn K mainGlobals "_law_words" = some (some (.ref fWd)))
    (lWd : K.lookup fWd = some ⟨ocWd, odWd, .func (PySem.W.fnOf "_law_words" "_law_words" (defArgs s__law_words) (defBody s__law_words) (defScope s__law_words) .none kVWd dcWd pmWd anWd cdWd ctWd), slWd⟩) (cWd : PySem.W.codeIn K cdWd "_law_words" = true) (kWd : PySem.W.keepIn K (.ref fWd) = true)
    (aNu : PySem.W.nsIn K mainGlobals "_law_number" = some (some (.ref fNu)))
    (lNu : K.lookup fNu = some ⟨ocNu, odNu, .func (PySem.W.fnOf "_law_number" "_law_number" (defArgs s__law_number) (defBody s__law_number) (defScope s__law_number) .none kVNu dcNu pmNu anNu cdNu ctNu), slNu⟩) (cNu : PySem.W.codeIn K cdNu "_law_number" = true) (kNu : PySem.W.keepIn K (.ref fNu) = true)
    (aAr : PySem.W.nsIn K mainGlobals "_law_are_values" = some (some (.ref fAr)))
    (lAr : K.lookup fAr = some ⟨ocAr, odAr, .func (PySem.W.fnOf "_law_are_values" "_law_are_values" (defArgs s__law_are_values) (defBody s__law_are_values) (defScope s__law_are_values) .none kVAr dcAr pmAr anAr cdAr ctAr), slAr⟩) (cAr : PySem.W.codeIn K cdAr "_law_are_values" = true) (kAr : PySem.W.keepIn K (.ref fAr) = true)
    (aLo : PySem.W.nsIn K mainGlobals "_law_loose" = some (some (.ref fLo)))
    (lLo : K.lookup fLo = some ⟨ocLo, odLo, .func (PySem.W.fnOf "_law_loose" "_law_loose" (defArgs s__law_loose) (defBody s__law_loose) (defScope s__law_loose) .none kVLo dcLo pmLo anLo cdLo ctLo), slLo⟩) (cLo : PySem.W.codeIn K cdLo "_law_loose" = true) (kLo : PySem.W.keepIn K (.ref fLo) = true)
    (aBe : PySem.W.nsIn K mainGlobals "_law_bent" = some (some (.ref fBe)))
    (lBe : K.lookup fBe = some ⟨ocBe, odBe, .func (PySem.W.fnOf "_law_bent" "_law_bent" (defArgs s__law_bent) (defBody s__law_bent) (defScope s__law_bent) .none kVBe dcBe pmBe anBe cdBe ctBe), slBe⟩) (cBe : PySem.W.codeIn K cdBe "_law_bent" = true) (kBe : PySem.W.keepIn K (.ref fBe) = true)
    (aRd : PySem.W.nsIn K mainGlobals "_law_read" = some (some (.ref fRd)))
    (lRd : K.lookup fRd = some ⟨ocRd, odRd, .func (PySem.W.fnOf "_law_read" "_law_read" (defArgs s__law_read) (defBody s__law_read) (defScope s__law_read) .none kVRd dcRd pmRd anRd cdRd ctRd), slRd⟩) (cRd : PySem.W.codeIn K cdRd "_law_read" = true) (kRd : PySem.W.keepIn K (.ref fRd) = true)
    (aTd : PySem.W.nsIn K mainGlobals "_law_told" = some (some (.ref fTd)))
    (lTd : K.lookup fTd = some ⟨ocTd, odTd, .func (PySem.W.fnOf "_law_told" "_law_told" (defArgs s__law_told) (defBody s__law_told) (defScope s__law_told) .none kVTd dcTd pmTd anTd cdTd ctTd), slTd⟩) (cTd : PySem.W.codeIn K cdTd "_law_told" = true) (kTd : PySem.W.keepIn K (.ref fTd) = true)
    (aCG : PySem.W.nsIn K mainGlobals "check_goals" = some (some (.ref fCG)))
    (lCG : K.lookup fCG = some ⟨ocCG, odCG, .func (PySem.W.fnOf "check_goals" "check_goals" (defArgs s_check_goals) (defBody s_check_goals) (defScope s_check_goals) .none kVCG dcCG pmCG anCG cdCG ctCG), slCG⟩) (cCG : PySem.W.codeIn K cdCG "check_goals" = true) (kCG : PySem.W.keepIn K (.ref fCG) = true)
    (aCD : PySem.W.nsIn K mainGlobals "check_good" = some (some (.ref fCD)))
    (lCD : K.lookup fCD = some ⟨ocCD, odCD, .func (PySem.W.fnOf "check_good" "check_good" (defArgs s_check_good) (defBody s_check_good) (defScope s_check_good) .none kVCD dcCD pmCD anCD cdCD ctCD), slCD⟩) (cCD : PySem.W.codeIn K cdCD "check_good" = true) (kCD : PySem.W.keepIn K (.ref fCD) = true)
    (aSP : PySem.W.nsIn K mainGlobals "strange_place" = some (some (.ref fSP)))
    (lSP : K.lookup fSP = some ⟨ocSP, odSP, .func (PySem.W.fnOf "strange_place" "strange_place" (defArgs s_strange_place) (defBody s_strange_place) (defScope s_strange_place) .none kVSP dcSP pmSP anSP cdSP ctSP), slSP⟩) (cSP : PySem.W.codeIn K cdSP "strange_place" = true) (kSP : PySem.W.keepIn K (.ref fSP) = true)
    (aAv : PySem.W.nsIn K mainGlobals "are_values" = some (some (.ref fAv)))
    (lAv : K.lookup fAv = some ⟨ocAv, odAv, .func (PySem.W.fnOf "are_values" "are_values" (defArgs s_are_values) (defBody s_are_values) (defScope s_are_values) .none kVAv dcAv pmAv anAv cdAv ctAv), slAv⟩) (cAv : PySem.W.codeIn K cdAv "are_values" = true) (kAv : PySem.W.keepIn K (.ref fAv) = true)
    (aRL : PySem.W.nsIn K mainGlobals "read_lines" = some (some (.ref fRL)))
    (lRL : K.lookup fRL = some ⟨ocRL, odRL, .func (PySem.W.fnOf "read_lines" "read_lines" (defArgs s_read_lines) (defBody s_read_lines) (defScope s_read_lines) .none kVRL dcRL pmRL anRL cdRL ctRL), slRL⟩) (cRL : PySem.W.codeIn K cdRL "read_lines" = true) (kRL : PySem.W.keepIn K (.ref fRL) = true)
    (aRN : PySem.W.nsIn K mainGlobals "read_number" = some (some (.ref fRN)))
    (lRN : K.lookup fRN = some ⟨ocRN, odRN, .func (PySem.W.fnOf "read_number" "read_number" (defArgs s_read_number) (defBody s_read_number) (defScope s_read_number) .none kVRN dcRN pmRN anRN cdRN ctRN), slRN⟩) (cRN : PySem.W.codeIn K cdRN "read_number" = true) (kRN : PySem.W.keepIn K (.ref fRN) = true)
    (aRG : PySem.W.nsIn K mainGlobals "read_goals" = some (some (.ref fRG)))
    (lRG : K.lookup fRG = some ⟨ocRG, odRG, .func (PySem.W.fnOf "read_goals" "read_goals" (defArgs s_read_goals) (defBody s_read_goals) (defScope s_read_goals) .none kVRG dcRG pmRG anRG cdRG ctRG), slRG⟩) (cRG : PySem.W.codeIn K cdRG "read_goals" = true) (kRG : PySem.W.keepIn K (.ref fRG) = true)
    (aLaw : PySem.W.nsIn K mainGlobals "law" = some (some (.ref fLaw)))
    (lLaw : K.lookup fLaw = some ⟨ocLaw, odLaw, .func (PySem.W.fnOf "law" "law" (defArgs s_law) (defBody s_law) (defScope s_law) .none kVLaw dcLaw pmLaw anLaw cdLaw ctLaw), slLaw⟩) (cLaw : PySem.W.codeIn K cdLaw "law" = true) (kLaw : PySem.W.keepIn K (.ref fLaw) = true)
    (aI : PySem.W.findIn K (.ref C) "__init__" = some (some (.ref fI))) (iI : PySem.W.isFn K (.ref fI) = true)
    (lI : K.lookup fI = some ⟨ocI, odI, .func (PySem.W.fnOf "__init__" "Shape.__init__" (defArgs s_Shape___init__) (defBody s_Shape___init__) (defScope s_Shape___init__) .none kVI dcI pmI anI cdI ctI), slI⟩) (cI : PySem.W.codeIn K cdI "Shape.__init__" = true) (kI : PySem.W.keepIn K (.ref fI) = true)
    (aLn : PySem.W.findIn K (.ref C) "__len__" = some (some (.ref fLn))) (iLn : PySem.W.isFn K (.ref fLn) = true)
    (lLn : K.lookup fLn = some ⟨ocLn, odLn, .func (PySem.W.fnOf "__len__" "Shape.__len__" (defArgs s_Shape___len__) (defBody s_Shape___len__) (defScope s_Shape___len__) .none kVLn dcLn pmLn anLn cdLn ctLn), slLn⟩) (cLn : PySem.W.codeIn K cdLn "Shape.__len__" = true) (kLn : PySem.W.keepIn K (.ref fLn) = true)
    (aEq : PySem.W.findIn K (.ref C) "__eq__" = some (some (.ref fEq))) (iEq : PySem.W.isFn K (.ref fEq) = true)
    (lEq : K.lookup fEq = some ⟨ocEq, odEq, .func (PySem.W.fnOf "__eq__" "Shape.__eq__" (defArgs s_Shape___eq__) (defBody s_Shape___eq__) (defScope s_Shape___eq__) .none kVEq dcEq pmEq anEq cdEq ctEq), slEq⟩) (cEq : PySem.W.codeIn K cdEq "Shape.__eq__" = true) (kEq : PySem.W.keepIn K (.ref fEq) = true)
    (aSr : PySem.W.findIn K (.ref C) "__str__" = some (some (.ref fSr))) (iSr : PySem.W.isFn K (.ref fSr) = true)
    (lSr : K.lookup fSr = some ⟨ocSr, odSr, .func (PySem.W.fnOf "__str__" "Shape.__str__" (defArgs s_Shape___str__) (defBody s_Shape___str__) (defScope s_Shape___str__) .none kVSr dcSr pmSr anSr cdSr ctSr), slSr⟩) (cSr : PySem.W.codeIn K cdSr "Shape.__str__" = true) (kSr : PySem.W.keepIn K (.ref fSr) = true)
    (aSt : PySem.W.findIn K (.ref C) "step" = some (some (.ref fSt))) (iSt : PySem.W.isFn K (.ref fSt) = true)
    (lSt : K.lookup fSt = some ⟨ocSt, odSt, .func (PySem.W.fnOf "step" "Shape.step" (defArgs s_Shape_step) (defBody s_Shape_step) (defScope s_Shape_step) .none kVSt dcSt pmSt anSt cdSt ctSt), slSt⟩) (cSt : PySem.W.codeIn K cdSt "Shape.step" = true) (kSt : PySem.W.keepIn K (.ref fSt) = true)
    (aBC : PySem.W.findIn K (.ref CB) "__init__" = some (some (.ref fBC))) (iBC : PySem.W.isFn K (.ref fBC) = true)
    (lBC : K.lookup fBC = some ⟨ocBC, odBC, .func (PySem.W.fnOf "__init__" "BadCode.__init__" (defArgs s_BadCode___init__) (defBody s_BadCode___init__) (defScope s_BadCode___init__) .none kVBC dcBC pmBC anBC cdBC ctBC), slBC⟩) (cBC : PySem.W.codeIn K cdBC "BadCode.__init__" = true) (kBC : PySem.W.keepIn K (.ref fBC) = true)
    (aT : PySem.W.findIn K (.ref CT) "__init__" = some (some (.ref fT))) (iT : PySem.W.isFn K (.ref fT) = true)
    (lT : K.lookup fT = some ⟨ocT, odT, .func (PySem.W.fnOf "__init__" "BadText.__init__" (defArgs s_BadText___init__) (defBody s_BadText___init__) (defScope s_BadText___init__) .none kVT dcT pmT anT cdT ctT), slT⟩) (cT : PySem.W.codeIn K cdT "BadText.__init__" = true) (kT : PySem.W.keepIn K (.ref fT) = true)
    (aR : PySem.W.findCls K (.ref C) (.type "type") "read" = some (.get (.builtin "classmethod.__get__") (.ref pR) .none (.ref C))) (rR : PySem.W.recIn K pR "classmethod" = some (.ref fR :: rsR)) (gR : PySem.W.fnIn K fR = true)
    (lR : K.lookup fR = some ⟨ocR, odR, .func (PySem.W.fnOf "read" "Shape.read" (defArgs s_Shape_read) (defBody s_Shape_read) (defScope s_Shape_read) .none kVR dcR pmR anR cdR ctR), slR⟩) (cR : PySem.W.codeIn K cdR "Shape.read" = true) (kR : PySem.W.keepIn K (.ref fR) = true)
    (z_int : PySem.W.nsIn K mainGlobals "int" = some none)
    (z_len : PySem.W.nsIn K mainGlobals "len" = some none)
    (z_list : PySem.W.nsIn K mainGlobals "list" = some none)
    (z_range : PySem.W.nsIn K mainGlobals "range" = some none)
    (z_sorted : PySem.W.nsIn K mainGlobals "sorted" = some none)
    (z_any : PySem.W.nsIn K mainGlobals "any" = some none)
    (z_tuple : PySem.W.nsIn K mainGlobals "tuple" = some none)
    (z_enumerate : PySem.W.nsIn K mainGlobals "enumerate" = some none)
    (z_min : PySem.W.nsIn K mainGlobals "min" = some none)
    (z_set : PySem.W.nsIn K mainGlobals "set" = some none)
    (z_isinstance : PySem.W.nsIn K mainGlobals "isinstance" = some none)
    (z_str : PySem.W.nsIn K mainGlobals "str" = some none)
    (ebC : PySem.W.nsIn K mainGlobals "BadCode" = some (some (.ref CB))) (ebL : K.lookup CB = some (excClassObj ebnm ebq CB ebN ebbs [.ref B, .type "ValueError", .type "Exception", .type "BaseException", .type "object"] true ebsn ebsub ebab ebcol ebdd ebm0 ebm1 ebm2 ebm3 ebm5 "ValueError.__new__"))
    (ebsa : PySem.W.findIn K (.ref CB) "__setattr__" = some (some (.builtin "object.__setattr__"))) (ebex : PySem.W.subIn K (.ref CB) (.type "BaseException") = some true) (ebty : PySem.W.typeIn K (.ref CB) = some (.type "type")) (ebkc : PySem.W.keepIn K (.ref CB) = true)
    (ebtI : PySem.W.typeIn K (.ref fBC) = some (.type "function")) (ebnf : PySem.W.findIn K (.ref CB) "state" = some none)
    (ebga : PySem.W.findIn K (.ref CB) "__getattribute__" = some (some (.builtin "BaseException.__getattribute__"))) (ebgg : PySem.W.findIn K (.ref CB) "__getattr__" = some none) (ebhd : PySem.W.hasDictIn K CB = true) (ebss : PySem.W.subIn K (.ref CB) (.ref CB) = some true)
    (etC : PySem.W.nsIn K mainGlobals "BadText" = some (some (.ref CT))) (etL : K.lookup CT = some (excClassObj etnm etq CT etN etbs [.ref B, .type "ValueError", .type "Exception", .type "BaseException", .type "object"] true etsn etsub etab etcol etdd etm0 etm1 etm2 etm3 etm5 "ValueError.__new__"))
    (etsa : PySem.W.findIn K (.ref CT) "__setattr__" = some (some (.builtin "object.__setattr__"))) (etex : PySem.W.subIn K (.ref CT) (.type "BaseException") = some true) (etty : PySem.W.typeIn K (.ref CT) = some (.type "type")) (etkc : PySem.W.keepIn K (.ref CT) = true)
    (ettI : PySem.W.typeIn K (.ref fT) = some (.type "function")) (etnf : PySem.W.findIn K (.ref CT) "line" = some none)
    (etga : PySem.W.findIn K (.ref CT) "__getattribute__" = some (some (.builtin "BaseException.__getattribute__"))) (etgg : PySem.W.findIn K (.ref CT) "__getattr__" = some none) (ethd : PySem.W.hasDictIn K CT = true) (etss : PySem.W.subIn K (.ref CT) (.ref CT) = some true)
    (BC : PySem.W.nsIn K mainGlobals "CodeError" = some (some (.ref B))) (Bs0 : PySem.W.specialIn K (.ref B) "__getattribute__" = some (some (.builtin "type.__getattribute__"))) (Br : PySem.W.readsIn K B (.type "type") = true)
    (Bv : PySem.W.findCls K (.ref B) (.type "type") "__init__" = some (.val (.builtin "ValueError.__init__")))
    (ms : ∃ t, mg "MOST_DIGITS" = some (.int 4000 t))
    (cC : PySem.W.nsIn K mainGlobals "Shape" = some (some (.ref C))) (cpg : PySem.W.plainGet K C Str.empty = true) (chd : PySem.W.hasDictIn K C = true) (cpo : PySem.W.plainOver K C = true) (csa : PySem.W.findIn K (.ref C) "__setattr__" = some (some (.builtin "object.__setattr__"))) (cmk : PySem.W.makesIn K C = true) (ckc : PySem.W.keepIn K (.ref C) = true)
    (cnL : PySem.W.findIn K (.ref C) "letters" = some none) (cnR : PySem.W.findIn K (.ref C) "rows" = some none) (cnE : PySem.W.findIn K (.ref C) "good" = some none)
    (qa : PySem.W.findIn K (.ref C) "__class__" = some (some (.builtin "object.__class__"))) (qn : PySem.W.specialIn K (.builtin "object.__class__") "__get__" = some (some (.builtin "getset_descriptor.__get__"))) (qt : PySem.W.takesIn K (.builtin "object.__class__") = some true) (qm : PySem.W.mroIn K C (.type "object") = some true)
    (crd : PySem.W.readsIn K C (.type "type") = true) (cga : PySem.W.specialIn K (.ref C) "__getattribute__" = some (some (.builtin "type.__getattribute__"))) :
    ∃ fd : FuncData, (∀ (s : Shared) (v : Value), BindsTo s fd ⟨[v], []⟩ [("_law_script", v)]) ∧ ∀ base : Heap, K.In base → base.Ns mainGlobals mg → FnOk l.prog w K mg base CX0 8 fa fd ["_law_script"] (spLaw K) := by
  have e := hfa.symm.trans (PySem.W.mg_of X G aLaw)
  cases e
  have FD := fun_mk (st := s__law_draw) lD cD kD
  have bD := FD.binds (ps := P__law_draw) fun _ _ _ _ _ _ us hl => match us, hl with | [_, _], _ => rfl
  have FP := fun_mk (st := s__law_pick) lP cP kP
  have bP := FP.binds (ps := P__law_pick) fun _ _ _ _ _ _ us hl => match us, hl with | [_, _], _ => rfl
  have FPen := fun_mk (st := s__law_pen) lPen cPen kPen
  have bPen := FPen.binds (ps := P__law_pen) fun _ _ _ _ _ _ us hl => match us, hl with | [_], _ => rfl
  have FLe := fun_mk (st := s__law_letters) lLe cLe kLe
  have bLe := FLe.binds (ps := P__law_letters) fun _ _ _ _ _ _ us hl => match us, hl with | [_, _], _ => rfl
  have FSh := fun_mk (st := s__law_shape) lSh cSh kSh
  have bSh := FSh.binds (ps := P__law_shape) fun _ _ _ _ _ _ us hl => match us, hl with | [_, _, _], _ => rfl
  have FWd := fun_mk (st := s__law_words) lWd cWd kWd
  have bWd := FWd.binds (ps := P__law_words) fun _ _ _ _ _ _ us hl => match us, hl with | [_], _ => rfl
  have FNu := fun_mk (st := s__law_number) lNu cNu kNu
  have bNu := FNu.binds (ps := P__law_number) fun _ _ _ _ _ _ us hl => match us, hl with | [_, _], _ => rfl
  have FAr := fun_mk (st := s__law_are_values) lAr cAr kAr
  have bAr := FAr.binds (ps := P__law_are_values) fun _ _ _ _ _ _ us hl => match us, hl with | [_], _ => rfl
  have FLo := fun_mk (st := s__law_loose) lLo cLo kLo
  have bLo := FLo.binds (ps := P__law_loose) fun _ _ _ _ _ _ us hl => match us, hl with | [_, _], _ => rfl
  have FBe := fun_mk (st := s__law_bent) lBe cBe kBe
  have bBe := FBe.binds (ps := P__law_bent) fun _ _ _ _ _ _ us hl => match us, hl with | [_, _, _], _ => rfl
  have FRd := fun_mk (st := s__law_read) lRd cRd kRd
  have bRd := FRd.binds (ps := P__law_read) fun _ _ _ _ _ _ us hl => match us, hl with | [_], _ => rfl
  have FTd := fun_mk (st := s__law_told) lTd cTd kTd
  have bTd := FTd.binds (ps := P__law_told) fun _ _ _ _ _ _ us hl => match us, hl with | [_], _ => rfl
  have FCG := fun_mk (st := s_check_goals) lCG cCG kCG
  have bCG := FCG.binds (ps := P_check_goals) fun _ _ _ _ _ _ us hl => match us, hl with | [_, _], _ => rfl
  have FCD := fun_mk (st := s_check_good) lCD cCD kCD
  have bCD := FCD.binds (ps := P_check_good) fun _ _ _ _ _ _ us hl => match us, hl with | [_, _], _ => rfl
  have FSP := fun_mk (st := s_strange_place) lSP cSP kSP
  have bSP := FSP.binds (ps := P_strange_place) fun _ _ _ _ _ _ us hl => match us, hl with | [_, _], _ => rfl
  have FAv := fun_mk (st := s_are_values) lAv cAv kAv
  have bAv := FAv.binds (ps := P_are_values) fun _ _ _ _ _ _ us hl => match us, hl with | [_], _ => rfl
  have FRL := fun_mk (st := s_read_lines) lRL cRL kRL
  have bRL := FRL.binds (ps := P_read_lines) fun _ _ _ _ _ _ us hl => match us, hl with | [_, _], _ => rfl
  have FRN := fun_mk (st := s_read_number) lRN cRN kRN
  have bRN := FRN.binds (ps := P_read_number) fun _ _ _ _ _ _ us hl => match us, hl with | [_], _ => rfl
  have FRG := fun_mk (st := s_read_goals) lRG cRG kRG
  have bRG := FRG.binds (ps := P_read_goals) fun _ _ _ _ _ _ us hl => match us, hl with | [_, _, _], _ => rfl
  have FLaw := fun_mk (st := s_law) lLaw cLaw kLaw
  have FI := fun_mk (st := s_Shape___init__) lI cI kI
  have bI := FI.binds (ps := P_Shape___init__) fun _ _ _ _ _ _ us hl => match us, hl with | [_, _, _, _], _ => rfl
  have FLn := fun_mk (st := s_Shape___len__) lLn cLn kLn
  have bLn := FLn.binds (ps := P_Shape___len__) fun _ _ _ _ _ _ us hl => match us, hl with | [_], _ => rfl
  have FEq := fun_mk (st := s_Shape___eq__) lEq cEq kEq
  have bEq := FEq.binds (ps := P_Shape___eq__) fun _ _ _ _ _ _ us hl => match us, hl with | [_, _], _ => rfl
  have FSr := fun_mk (st := s_Shape___str__) lSr cSr kSr
  have bSr := FSr.binds (ps := P_Shape___str__) fun _ _ _ _ _ _ us hl => match us, hl with | [_], _ => rfl
  have FSt := fun_mk (st := s_Shape_step) lSt cSt kSt
  have bSt := FSt.binds (ps := P_Shape_step) fun _ _ _ _ _ _ us hl => match us, hl with | [_, _, _], _ => rfl
  have FBC := fun_mk (st := s_BadCode___init__) lBC cBC kBC
  have bBC := FBC.binds (ps := P_BadCode___init__) fun _ _ _ _ _ _ us hl => match us, hl with | [_, _], _ => rfl
  have FT := fun_mk (st := s_BadText___init__) lT cT kT
  have bT := FT.binds (ps := P_BadText___init__) fun _ _ _ _ _ _ us hl => match us, hl with | [_, _], _ => rfl
  have FR := fun_mk (st := s_Shape_read) lR cR kR
  have bR := FR.binds (ps := P_Shape_read) fun _ _ _ _ _ _ us hl => match us, hl with | [_, _], _ => rfl
  have TB : BaseT K mg "CodeError" B := ⟨PySem.W.mg_of X G BC, Bs0, Br, Bv⟩
  have Eeb : ErrT K mg "BadCode" "state" CB fBC := ⟨⟨⟨ebnm, ebq, ebN, ebbs, _, ebsn, ebsub, ebab, ebcol, ebdd, ebm0, ebm1, ebm2, ebm3, ebm5, ebL, by rfl⟩, ebsa, ebex, ebty, ebkc⟩, PySem.W.mg_of X G ebC, aBC, ebtI, ebnf, ⟨ebga, ebgg, ebex, ebhd⟩⟩
  have Eet : ErrT K mg "BadText" "line" CT fT := ⟨⟨⟨etnm, etq, etN, etbs, _, etsn, etsub, etab, etcol, etdd, etm0, etm1, etm2, etm3, etm5, etL, by rfl⟩, etsa, etex, etty, etkc⟩, PySem.W.mg_of X G etC, aT, ettI, etnf, ⟨etga, etgg, etex, ethd⟩⟩
  have TC : TxtC K mg B CB fBC := { len := PySem.W.mg_none_of X G z_len, any := PySem.W.mg_none_of X G z_any, tuple := PySem.W.mg_none_of X G z_tuple, enumerate := PySem.W.mg_none_of X G z_enumerate, sorted := PySem.W.mg_none_of X G z_sorted, set := PySem.W.mg_none_of X G z_set, base := TB, bc := Eeb }
  have TS : TxtS K mg C fCG fCD B CB fBC := { TC with cl := ⟨cpg, chd, cpo, csa⟩, nL := cnL, nR := cnR, nG := cnE, mgShape := PySem.W.mg_of X G cC, mcheck_goals := PySem.W.mg_of X G aCG, kcheck_goals := kCG, mcheck_good := PySem.W.mg_of X G aCD, kcheck_good := kCD }
  have TSM : TxtSM K mg C fCG fCD B CB fBC fSP fSt fEq fLn := { TS with mstrange_place := PySem.W.mg_of X G aSP, kstrange_place := kSP, mtSt := ⟨aSt, iSt, kSt⟩, isinstance := PySem.W.mg_none_of X G z_isinstance, ca := qa, cn := qn, ct := qt, cm := qm, kc := kit_self C, eqs := aEq, eqf := iEq, lns := aLn, lnf := iLn }
  have TP : TxtP K mg fD fP := { int := PySem.W.mg_none_of X G z_int, len := PySem.W.mg_none_of X G z_len, list := PySem.W.mg_none_of X G z_list, range := PySem.W.mg_none_of X G z_range, sorted := PySem.W.mg_none_of X G z_sorted, m_law_draw := PySem.W.mg_of X G aD, k_law_draw := kD, m_law_pick := PySem.W.mg_of X G aP, k_law_pick := kP }
  have TAv : TxtAv K mg fSP := { len := PySem.W.mg_none_of X G z_len, list := PySem.W.mg_none_of X G z_list, sorted := PySem.W.mg_none_of X G z_sorted, set := PySem.W.mg_none_of X G z_set, enumerate := PySem.W.mg_none_of X G z_enumerate, mstrange_place := PySem.W.mg_of X G aSP, kstrange_place := kSP }
  have TRG : TxtRG K mg fRN := { len := PySem.W.mg_none_of X G z_len, any := PySem.W.mg_none_of X G z_any, mread_number := PySem.W.mg_of X G aRN, kread_number := kRN }
  have TRL : TxtRL K mg B CT fT fAv := { base := TB, bt := Eet, len := PySem.W.mg_none_of X G z_len, mare_values := PySem.W.mg_of X G aAv, kare_values := kAv }
  have TRd : TxtRd K mg B CT fT fRL fRG := { base := TB, bt := Eet, len := PySem.W.mg_none_of X G z_len, enumerate := PySem.W.mg_none_of X G z_enumerate, mread_lines := PySem.W.mg_of X G aRL, kread_lines := kRL, mread_goals := PySem.W.mg_of X G aRG, kread_goals := kRG }
  have cr : ClX.CRead K C (.type "type") := ⟨crd, cga⟩
  have cm : ClX.CMet K C (.type "type") "read" pR fR := ⟨aR, ⟨_, rR⟩, gR⟩
  have TTd : TxtTd K mg C CT fT pR fR (.type "type") := { bt := Eet, mgShape := PySem.W.mg_of X G cC, cr := cr, cm := cm, te := PySem.W.exm_ref etex ethd etty etss }
  have TLr : TxtLr K mg C fWd fNu fAr := { TP with mgShape := PySem.W.mg_of X G cC, m_law_words := PySem.W.mg_of X G aWd, k_law_words := kWd, m_law_number := PySem.W.mg_of X G aNu, k_law_number := kNu, m_law_are_values := PySem.W.mg_of X G aAr, k_law_are_values := kAr }
  have TLaw : TxtLaw K mg fD fP fPen fLe fSh fTd fRd fBe fLo C fEq fSr pR fR (.type "type") := { TP with min := PySem.W.mg_none_of X G z_min, str := PySem.W.mg_none_of X G z_str, mgShape := PySem.W.mg_of X G cC, eqs := aEq, eqf := iEq, srs := aSr, srf := iSr, cr := cr, cm := cm, m_law_pen := PySem.W.mg_of X G aPen, k_law_pen := kPen, m_law_letters := PySem.W.mg_of X G aLe, k_law_letters := kLe, m_law_shape := PySem.W.mg_of X G aSh, k_law_shape := kSh, m_law_told := PySem.W.mg_of X G aTd, k_law_told := kTd, m_law_read := PySem.W.mg_of X G aRd, k_law_read := kRd, m_law_bent := PySem.W.mg_of X G aBe, k_law_bent := kBe, m_law_loose := PySem.W.mg_of X G aLo, k_law_loose := kLo }
  refine ⟨PySem.W.fnOf "law" "law" (defArgs s_law) (defBody s_law) (defScope s_law) .none kVLaw dcLaw pmLaw anLaw cdLaw ctLaw, fun s v => .of_eq rfl, fun base KB GB => ?_⟩
  have GI : FnOk l.prog w K mg base (L2.CX l.prog w) 4 fI _ P_Shape___init__ (spInitS K C CB) := ok_initS FI TS FCG bCG FCD bCD FBC bBC
  have GSr : FnOk l.prog w K mg base CX0 1 fSr _ P_Shape___str__ (spStrS K C) := ok_strS FSr TS (PySem.W.mg_none_of X G z_str)
  have GEq : FnOk l.prog w K mg base CX0 1 fEq _ P_Shape___eq__ (spEqS K C) := ok_eqS FEq TSM
  have GRN : FnOk l.prog w K mg base CX0 1 fRN _ P_read_number spReadN := ok_readN FRN (PySem.W.mg_none_of X G z_len) (PySem.W.mg_none_of X G z_int) ms
  have GAv : FnOk l.prog w K mg base CX0 2 fAv _ P_are_values spAreV := ok_areV FAv TAv FSP bSP
  have GRG : FnOk l.prog w K mg base CX0 2 fRG _ P_read_goals (spReadG K) := ok_readG FRG TRG GRN bRN
  have GRL : FnOk l.prog w K mg base (L2.CX l.prog w) 4 fRL _ P_read_lines (spReadL K CT) := ok_readL FRL TRL FT bT GAv bAv
  have GR : FnOk l.prog w K mg base (L2.CX l.prog w) 6 fR _ P_Shape_read (spRead K C CT) := ok_read FR TRd FT bT GRL bRL GRG bRG ⟨cmk, aI, iI, ckc⟩ GI bI
  have GW : FnOk l.prog w K mg base CX0 1 fWd _ P__law_words (spWords K) := ok_words FWd
  have GN : FnOk l.prog w K mg base CX0 1 fNu _ P__law_number spNumL := ok_numL FNu (PySem.W.mg_none_of X G z_len) (PySem.W.mg_none_of X G z_int)
  have GA : FnOk l.prog w K mg base CX0 1 fAr _ P__law_are_values spAreL := ok_areL FAr TP.toTxtA
  have GRd : FnOk l.prog w K mg base (L2.CX l.prog w) 6 fRd _ P__law_read (spLawR K C) := ok_lawR FRd TLr GW bWd GN bNu GA bAr ⟨cmk, aI, iI, ckc⟩ GI bI
  have GTd : FnOk l.prog w K mg base CX0 7 fTd _ P__law_told (spToldS K C) := ok_toldS FTd TTd ((GR.raw bR .nil).imp fun vs H Q E h => by rw [List.append_nil]; exact h)
  have GBe : FnOk l.prog w K mg base CX0 3 fBe _ P__law_bent spBentL := ok_bentL FBe TP FD bD FP bP
  have GLo : FnOk l.prog w K mg base CX0 2 fLo _ P__law_loose spLoose := ok_loose FLo TP.toTxtD FD bD
  exact FnOk.calm (ok_law FLaw TLaw FD bD (ok_pen FPen TP.toTxtA) bPen (ok_letters FLe TP.toTxtD FD bD) bLe (ok_shape FSh TP.toTxtD FD bD) bSh GTd bTd GRd bRd GBe bBe GLo bLo GEq bEq GSr bSr ((GR.raw bR .nil).imp fun vs H Q E h => by rw [List.append_nil]; exact h) ⟨cmk, aI, iI, ckc⟩ GI bI)
theorem walk {l : PySem.W.OpenLaw} {q : Program} {loose : List Str} {XP : (Str → Option Value) → Heap → Prop} {YP : World → Heap → Prop} {d : DefRec} {K : Params → PySem.W.Frag} (hn : l.most = some 63) (hdf : d.params.defaults = [])
    (hY : ∀ (w : World) (h : Heap), YP w h → (K w.params).In h)
    (F : ∀ (w : World) (mg : Str → Option Value) (fa : Addr) (h : Heap), (K w.params).In h → h.Ns mainGlobals mg → mg d.name = some (.ref fa) →
      ∃ fd : FuncData, (∀ (s : Shared) (u : Value), BindsTo s fd ⟨[u], []⟩ [("_law_script", u)]) ∧ ∀ base : Heap, (K w.params).In base → base.Ns mainGlobals mg → FnOk l.prog w (K w.params) mg base CX0 8 fa fd ["_law_script"] (spLaw (K w.params))) :
    PySem.W.WalkO q loose XP YP l.row.toRowW d [] (fun f vs => PySem.call f vs) :=
  L2.walk_of (n := 63) (k := 8) (x := "_law_script") (CX := fun _ => CX0) (sp := fun w => spLaw (K w.params)) hn (by decide) hdf ⟨rfl, by decide, by decide⟩ hY F (fun _ _ a ns hl _ hS => ⟨a, ns, rfl, hS, hl, fun _ => rfl⟩) fun _ _ _ _ _ z => z
end Vf
open PySem PySem.W PyProof.Rows
set_option maxRecDepth 100000 in
set_option maxHeartbeats 0 in
theorem PySem.Challenge.cw_bestcodes_k10_texts_of_shapes_holds : PySem.Challenge.rw_bestcodes_k10_texts_of_shapes.Holds := by
  w_on; o_law; k_head; (case hw => w_witness2)
  k_fill
  refine Vf.walk (l := PySem.Challenge.rw_bestcodes_k10_texts_of_shapes) rfl rfl (fun w h Y => PySem.W.kIn_of Y) ?F
  case F =>
    intro w mg fa h KX G hmg
    refine' Vf.all_at KX G hmg ?aD ?lD ?cD ?kD ?aP ?lP ?cP ?kP ?aPen ?lPen ?cPen ?kPen ?aLe ?lLe ?cLe ?kLe ?aSh ?lSh ?cSh ?kSh ?aWd ?lWd ?cWd ?kWd ?aNu ?lNu ?cNu ?kNu ?aAr ?lAr ?cAr ?kAr ?aLo ?lLo ?cLo ?kLo ?aBe ?lBe ?cBe ?kBe ?aRd ?lRd ?cRd ?kRd ?aTd ?lTd ?cTd ?kTd ?aCG ?lCG ?cCG ?kCG ?aCD ?lCD ?cCD ?kCD ?aSP ?lSP ?cSP ?kSP ?aAv ?lAv ?cAv ?kAv ?aRL ?lRL ?cRL ?kRL ?aRN ?lRN ?cRN ?kRN ?aRG ?lRG ?cRG ?kRG ?aLaw ?lLaw ?cLaw ?kLaw ?aI ?iI ?lI ?cI ?kI ?aLn ?iLn ?lLn ?cLn ?kLn ?aEq ?iEq ?lEq ?cEq ?kEq ?aSr ?iSr ?lSr ?cSr ?kSr ?aSt ?iSt ?lSt ?cSt ?kSt ?aBC ?iBC ?lBC ?cBC ?kBC ?aT ?iT ?lT ?cT ?kT ?aR ?rR ?gR ?lR ?cR ?kR ?z_int ?z_len ?z_list ?z_range ?z_sorted ?z_any ?z_tuple ?z_enumerate ?z_min ?z_set ?z_isinstance ?z_str ?ebC ?ebL ?ebsa ?ebex ?ebty ?ebkc ?ebtI ?ebnf ?ebga ?ebgg ?ebhd ?ebss ?etC ?etL ?etsa ?etex ?etty ?etkc ?ettI ?etnf ?etga ?etgg ?ethd ?etss ?BC ?Bs0 ?Br ?Bv ?ms ?cC ?cpg ?chd ?cpo ?csa ?cmk ?ckc ?cnL ?cnR ?cnE ?qa ?qn ?qt ?qm ?crd ?cga
    (case ebC => k_is)
    (case etC => k_is)
    (case BC => k_is)
    (case cC => first | k_is | kernel_rfl)
    (case aD => k_is)
    (case lD => k_is)
    (case cD => k_is)
    (case kD => k_is)
    (case aP => k_is)
    (case lP => k_is)
    (case cP => k_is)
    (case kP => k_is)
    (case aPen => k_is)
    (case lPen => k_is)
    (case cPen => k_is)
    (case kPen => k_is)
    (case aLe => k_is)
    (case lLe => k_is)
    (case cLe => k_is)
    (case kLe => k_is)
    (case aSh => k_is)
    (case lSh => k_is)
    (case cSh => k_is)
    (case kSh => k_is)
    (case aWd => k_is)
    (case lWd => k_is)
    (case cWd => k_is)
    (case kWd => k_is)
    (case aNu => k_is)
    (case lNu => k_is)
    (case cNu => k_is)
    (case kNu => k_is)
    (case aAr => k_is)
    (case lAr => k_is)
    (case cAr => k_is)
    (case kAr => k_is)
    (case aLo => k_is)
    (case lLo => k_is)
    (case cLo => k_is)
    (case kLo => k_is)
    (case aBe => k_is)
    (case lBe => k_is)
    (case cBe => k_is)
    (case kBe => k_is)
    (case aRd => k_is)
    (case lRd => k_is)
    (case cRd => k_is)
    (case kRd => k_is)
    (case aTd => k_is)
    (case lTd => k_is)
    (case cTd => k_is)
    (case kTd => k_is)
    (case aCG => k_is)
    (case lCG => k_is)
    (case cCG => k_is)
    (case kCG => k_is)
    (case aCD => k_is)
    (case lCD => k_is)
    (case cCD => k_is)
    (case kCD => k_is)
    (case aSP => k_is)
    (case lSP => k_is)
    (case cSP => k_is)
    (case kSP => k_is)
    (case aAv => k_is)
    (case lAv => k_is)
    (case cAv => k_is)
    (case kAv => k_is)
    (case aRL => k_is)
    (case lRL => k_is)
    (case cRL => k_is)
    (case kRL => k_is)
    (case aRN => k_is)
    (case lRN => k_is)
    (case cRN => k_is)
    (case kRN => k_is)
    (case aRG => k_is)
    (case lRG => k_is)
    (case cRG => k_is)
    (case kRG => k_is)
    (case aLaw => k_is)
    (case lLaw => k_is)
    (case cLaw => k_is)
    (case kLaw => k_is)
    (case aI => k_is)
    (case iI => k_is)
    (case lI => k_is)
    (case cI => k_is)
    (case kI => k_is)
    (case aLn => k_is)
    (case iLn => k_is)
    (case lLn => k_is)
    (case cLn => k_is)
    (case kLn => k_is)
    (case aEq => k_is)
    (case iEq => k_is)
    (case lEq => k_is)
    (case cEq => k_is)
    (case kEq => k_is)
    (case aSr => k_is)
    (case iSr => k_is)
    (case lSr => k_is)
    (case cSr => k_is)
    (case kSr => k_is)
    (case aSt => k_is)
    (case iSt => k_is)
    (case lSt => k_is)
    (case cSt => k_is)
    (case kSt => k_is)
    (case aBC => k_is)
    (case iBC => k_is)
    (case lBC => k_is)
    (case cBC => k_is)
    (case kBC => k_is)
    (case aT => k_is)
    (case iT => k_is)
    (case lT => k_is)
    (case cT => k_is)
    (case kT => k_is)
    (case aR => first | k_is | kernel_rfl)
    (case rR => first | k_is | kernel_rfl)
    (case gR => first | k_is | kernel_rfl)
    (case lR => k_is)
    (case cR => k_is)
    (case kR => k_is)
    (case z_int => k_is)
    (case z_len => k_is)
    (case z_list => k_is)
    (case z_range => k_is)
    (case z_sorted => k_is)
    (case z_any => k_is)
    (case z_tuple => k_is)
    (case z_enumerate => k_is)
    (case z_min => k_is)
    (case z_set => k_is)
    (case z_isinstance => k_is)
    (case z_str => k_is)
    (case ebL => k_is)
    (case ebsa => k_is)
    (case ebex => k_is)
    (case ebty => k_is)
    (case ebkc => k_is)
    (case ebtI => k_is)
    (case ebnf => k_is)
    (case ebga => k_is)
    (case ebgg => k_is)
    (case ebhd => k_is)
    (case ebss => k_is)
    (case etL => k_is)
    (case etsa => k_is)
    (case etex => k_is)
    (case etty => k_is)
    (case etkc => k_is)
    (case ettI => k_is)
    (case etnf => k_is)
    (case etga => k_is)
    (case etgg => k_is)
    (case ethd => k_is)
    (case etss => k_is)
    (case Bs0 => k_is)
    (case Br => k_is)
    (case Bv => k_is)
    (case ms => exact ⟨_, PySem.W.mg_of KX G (by k_is)⟩)
    (case cpg => first | k_is | kernel_rfl)
    (case chd => first | k_is | kernel_rfl)
    (case cpo => first | k_is | kernel_rfl)
    (case csa => first | k_is | kernel_rfl)
    (case cmk => first | k_is | kernel_rfl)
    (case ckc => first | k_is | kernel_rfl)
    (case cnL => first | k_is | kernel_rfl)
    (case cnR => first | k_is | kernel_rfl)
    (case cnE => first | k_is | kernel_rfl)
    (case qa => first | k_is | kernel_rfl)
    (case qn => first | k_is | kernel_rfl)
    (case qt => first | k_is | kernel_rfl)
    (case qm => first | k_is | kernel_rfl)
    (case crd => first | k_is | kernel_rfl)
    (case cga => first | k_is | kernel_rfl)
#print axioms PySem.Challenge.cw_bestcodes_k10_texts_of_shapes_holds
