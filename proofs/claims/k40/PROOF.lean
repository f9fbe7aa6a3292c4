import PyProof.Rows.All
import Wide.All
import OpenK.AllK
import Wide.FinOn
import HandS.ForMost
import HandS.Wide
import HandS.ExcInit
import HandS.ExcField
import HandS.WordsExc
import HandS.Style
import KE.GoesEnum
import HandS.Walk
import PyProof.EnumMake
import KE.GoesMore
import HandS.ExcOwn
import HandS.Exc
import HandS.Replace
import HandS.NestedK
import KE.KDictDisplayH
import KE.GoesZip
import HandS.List
import HandS.Set
import HandS.SetFor
import HandS.SetTxtIn
import HandS.Strs
import PyProof.ListStr
import HandS.OwnEq
import HandS.NamedTupGet
import HandS.SlotsOwn
import HandS.IsInst
import HandS.Deep
import HandS.Call
import PyProof.StrOps2
import PyProof.Rows.Range3
import HandS.DictComp
import HandS.FStr
import HandS.ExcIs
import PyProof.Rows.StrRev
import PySem.Challenge.RW_bestcodes_k40_shapes_by_tables
set_option Elab.async false
set_option linter.all false
set_option maxRecDepth 100000
set_option maxHeartbeats 4000000
/-! the pen -/
namespace Vf
open PySem L2 PyProof.Rows
theorem nCA : ¬ (("cells" : Str) = "at") := by decide +kernel
theorem nCL : ¬ (("cells" : Str) = "left") := by decide +kernel
theorem nAL : ¬ (("at" : Str) = "left") := by decide +kernel
theorem nAC : ¬ (("at" : Str) = "cells") := by decide +kernel
theorem nLC : ¬ (("left" : Str) = "cells") := by decide +kernel
theorem nLA : ¬ (("left" : Str) = "at") := by decide +kernel
def penKV (c : Addr) (a l : Int) : List (Key × V) := [(Sum.inr "cells", .ref c), (Sum.inr "at", .int a), (Sum.inr "left", .int l)]
theorem pen_cells (c : Addr) (a l : Int) : valV (penKV c a l) (Sum.inr "cells") = some (.ref c) := by
  simp [valV, penKV]
theorem pen_at (c : Addr) (a l : Int) : valV (penKV c a l) (Sum.inr "at") = some (.int a) := by
  simp [valV, penKV, nCA]
theorem pen_left (c : Addr) (a l : Int) : valV (penKV c a l) (Sum.inr "left") = some (.int l) := by
  simp [valV, penKV, nCL, nAL]
theorem pen_putAt (c : Addr) (a l b : Int) : putK (penKV c a l) (Sum.inr "at") (.int b) = penKV c b l := by
  simp [putK, penKV, nCA, nLA]
theorem pen_putLeft (c : Addr) (a l b : Int) : putK (penKV c a l) (Sum.inr "left") (.int b) = penKV c a b := by
  simp [putK, penKV, nCL, nAL]
theorem pen_merge (c : Addr) (a l : Int) : mergeK [] (penKV c a l) = penKV c a l := by
  simp [mergeK, penKV, putK, nCA, nCL, nAL]
/-- what a call may leave of the heap: all but the pen at p -/
def Kp (p : Addr) (H H' : Hp) : Prop := ∀ b o, H b = some o → b ≠ p → H' b = some o
theorem Kp.refl (p : Addr) (H : Hp) : Kp p H H := fun _ _ h _ => h
theorem Kp.trans {p : Addr} {H H1 H2 : Hp} (a : Kp p H H1) (b : Kp p H1 H2) : Kp p H H2 := fun c o h n => b c o (a c o h n) n
theorem Kp.of {p : Addr} {H H1 : Hp} (s : Same H H1) : Kp p H H1 := fun b o h _ => s b o h
/-- the pen: a dict of the script's cells, the place, what is left -/
def PenO (H : Hp) (p c : Addr) (a l : Int) (cs : List Int) : Prop := H p = some (.dK (penKV c a l)) ∧ H c = some (.lst (cs.map V.int)) ∧ cs.length ≤ 63 ∧ 0 ≤ a ∧ 0 ≤ l
def Pen (H : Hp) (p c : Addr) (n : Nat) : Prop := ∃ a l cs, PenO H p c a l cs ∧ a ≤ n
theorem PenO.ne {H : Hp} {p c : Addr} {a l : Int} {cs : List Int} (P : PenO H p c a l cs) : c ≠ p := ne_of P.2.1 P.1 (by intro z; cases z)
theorem Pen.mono {H : Hp} {p c : Addr} {n m : Nat} (P : Pen H p c n) (h : n ≤ m) : Pen H p c m := by
  obtain ⟨a, l, cs, q, r⟩ := P
  exact ⟨a, l, cs, q, by omega⟩
theorem Pen.same {H H' : Hp} {p c : Addr} {n : Nat} (P : Pen H p c n) (s : Same H H') : Pen H' p c n := by
  obtain ⟨a, l, cs, ⟨q1, q2, q3⟩, r⟩ := P
  exact ⟨a, l, cs, ⟨s _ _ q1, s _ _ q2, q3⟩, r⟩
theorem Pen.dk {H : Hp} {p c : Addr} {n : Nat} (P : Pen H p c n) : ∃ kvs, H p = some (.dK kvs) := by
  obtain ⟨a, l, cs, ⟨q1, _⟩, _⟩ := P
  exact ⟨_, q1⟩
/-- another object is written -/
theorem Pen.put {H : Hp} {p c r : Addr} {n : Nat} {o : HO} (P : Pen H p c n) (h1 : r ≠ p) (h2 : r ≠ c) : Pen (upd H r o) p c n := by
  obtain ⟨a, l, cs, ⟨q1, q2, q3⟩, z⟩ := P
  exact ⟨a, l, cs, ⟨by rw [upd_ne h1.symm]; exact q1, by rw [upd_ne h2.symm]; exact q2, q3⟩, z⟩
theorem Pen.new {H : Hp} {p c r : Addr} {n : Nat} (P : Pen H p c n) (h : H r = none) : r ≠ p ∧ r ≠ c := by
  obtain ⟨a, l, cs, ⟨q1, q2, q3⟩, z⟩ := P
  exact ⟨(ne_of_none q1 h).symm, (ne_of_none q2 h).symm⟩
theorem Kp.free {p c l : Addr} {n : Nat} {H H' : Hp} (k : Kp p H H') (P : Pen H' p c n) (h : H' l = none) : H l = none := by
  cases e : H l with
  | none => rfl
  | some o =>
    have := k l o e (P.new h).1
    rw [h] at this; cases this
theorem Kp.put {p r : Addr} {H H' : Hp} {o : HO} (k : Kp p H H') (h : H r = none) : Kp p H (upd H' r o) := fun b u e n => by
  rw [upd_ne (ne_of_none e h)]
  exact k b u e n
/-- a new object beside -/
theorem same_new {H : Hp} {a : Addr} {o : HO} (h : H a = none) : Same H (upd H a o) := fun b u e => by
  rw [upd_ne (ne_of_none e h)]
  exact e
theorem Same.upd {H H' : Hp} {a : Addr} {o : HO} (s : Same H H') (h : H a = none) : Same H (upd H' a o) := fun b u e => by
  rw [upd_ne (ne_of_none e h)]
  exact s b u e
theorem kp_upd {H : Hp} {p : Addr} {o : HO} : Kp p H (L2.upd H p o) := fun b u e n => by
  rw [upd_ne n]
  exact e
theorem dget_left {H : Hp} {p c : Addr} {a l : Int} (h : H p = some (.dK (penKV c a l))) : DGet H p (.str "left") (some (.int l)) := by
  have := DGet.k (k := Sum.inr "left") h
  rw [pen_left] at this
  exact this
theorem dget_at {H : Hp} {p c : Addr} {a l : Int} (h : H p = some (.dK (penKV c a l))) : DGet H p (.str "at") (some (.int a)) := by
  have := DGet.k (k := Sum.inr "at") h
  rw [pen_at] at this
  exact this
theorem dget_cells {H : Hp} {p c : Addr} {a l : Int} (h : H p = some (.dK (penKV c a l))) : DGet H p (.str "cells") (some (.ref c)) := by
  have := DGet.k (k := Sum.inr "cells") h
  rw [pen_cells] at this
  exact this
theorem dput_left {H : Hp} {p c : Addr} {a l b : Int} (h : H p = some (.dK (penKV c a l))) : DPut H p (.str "left") (.int b) (L2.upd H p (.dK (penKV c a b))) := by
  have := DPut.k (k := Sum.inr "left") (v := .int b) h (by show 3 < sizeLine; decide)
  rw [pen_putLeft] at this
  exact this
theorem dput_at {H : Hp} {p c : Addr} {a l b : Int} (h : H p = some (.dK (penKV c a l))) : DPut H p (.str "at") (.int b) (L2.upd H p (.dK (penKV c b l))) := by
  have := DPut.k (k := Sum.inr "at") (v := .int b) h (by show 3 < sizeLine; decide)
  rw [pen_putAt] at this
  exact this
theorem dp_ints (K : PySem.W.Frag) {H : Hp} {c : Addr} {cs : List Int} (h : H c = some (.lst (cs.map V.int))) : Dp K H (.ref c) (.list (cs.map PyData.int)) := by
  refine .lst (SqL.of h) ?_
  clear h
  induction cs with
  | nil => exact .nil
  | cons x r ih => exact .cons (.int x) ih
theorem eqv_ints_nil (cs : List Int) : PyData.eqv (.list (cs.map PyData.int)) (.list []) = cs.isEmpty := by
  cases cs with
  | nil => simp [PyData.eqv, PyData.eqvAll]
  | cons x r => simp [PyData.eqv, PyData.eqvAll]
theorem shaped_nil : SeqAt.shaped (.list []) = true := PySem.W.shaped_ints []
theorem fmod_bounds {x m : Int} (h : 0 < m) : 0 ≤ x.fmod m ∧ x.fmod m < m := by
  rw [Int.fmod_eq_emod_of_nonneg x (Int.le_of_lt h)]
  exact ⟨Int.emod_nonneg _ (by omega), Int.emod_lt_of_pos _ h⟩
theorem log_lt {m : Int} (h0 : 0 < m) (h : m < 2 ^ 200) : m.natAbs.log2 < 9000 := by
  have : m.natAbs < 2 ^ 200 := by omega
  exact Nat.lt_of_lt_of_le (PySem.Flt.log2_lt_of (by decide) this) (by decide)
end Vf
set_option Elab.async false
set_option linter.all false
set_option maxRecDepth 100000
set_option maxHeartbeats 4000000
/-! texts of one sign, letters -/
namespace Vf
open PySem L2 PyProof.Rows
/-- a text of one sign -/
def sg (c : Nat) : Str := ⟨#[c]⟩
theorem sg_tl (c : Nat) : TL.tl (sg c) = [c] := rfl
theorem sg_inj {c d : Nat} (h : sg c = sg d) : c = d := by
  have : TL.tl (sg c) = TL.tl (sg d) := by rw [h]
  rw [sg_tl, sg_tl] at this
  exact List.cons.inj this |>.1
theorem joinL_sg : ∀ cs : List Nat, TL.joinL [] ((cs.map sg).map TL.tl) = cs
  | [] => rfl
  | [c] => rfl
  | c :: d :: r => by
    have ih := joinL_sg (d :: r)
    show [c] ++ ([] ++ TL.joinL [] (((d :: r).map sg).map TL.tl)) = c :: d :: r
    rw [ih]; rfl
theorem join_sg (cs : List Nat) : TL.tl (Txt.join Str.empty (cs.map sg)) = cs := by
  rw [TL.join_eq, TL.tl_join]
  exact joinL_sg cs
theorem sum_sg (cs : List Nat) : ((cs.map sg).map (·.length)).sum = cs.length := by
  induction cs with
  | nil => rfl
  | cons c r ih =>
    simp only [List.map_cons, List.sum_cons, ih, List.length_cons]
    show 1 + r.length = r.length + 1
    omega
/-- what is a permutation of texts of one sign, is such -/
theorem perm_sg : ∀ {ys : List Str} {cs : List Nat}, ys.Perm (cs.map sg) → ∃ ds : List Nat, ys = ds.map sg ∧ ds.Perm cs := by
  intro ys cs h
  have hall : ∀ y ∈ ys, ∃ c, y = sg c := fun y hy => by
    obtain ⟨c, _, e⟩ := List.mem_map.mp (h.mem_iff.mp hy)
    exact ⟨c, e.symm⟩
  have : ∃ ds : List Nat, ys = ds.map sg := by
    clear h
    induction ys with
    | nil => exact ⟨[], rfl⟩
    | cons y r ih =>
      obtain ⟨c, e⟩ := hall y (List.mem_cons_self ..)
      obtain ⟨ds, e2⟩ := ih fun z hz => hall z (List.mem_cons_of_mem _ hz)
      exact ⟨c :: ds, by rw [e, e2]; rfl⟩
  obtain ⟨ds, e⟩ := this
  refine ⟨ds, e, ?_⟩
  rw [e] at h
  have g : ∀ l : List Nat, (l.map sg).map (fun s => s.cps.toList.headD 0) = l := fun l => by
    rw [List.map_map]
    exact List.map_id'' (fun c => rfl) l
  have := h.map (fun s : Str => s.cps.toList.headD 0)
  rw [g, g] at this
  exact this
theorem rising_sg : ∀ (cs : List Nat) (p : Nat), PyProof.Rows.risingS (sg p) (cs.map sg) = true → (p :: cs).Pairwise (· ≤ ·)
  | [], p, _ => List.pairwise_singleton _ _
  | c :: r, p, h => by
    have h' : (!PySem.Spec.ltCps (sg c).cps.toList (sg p).cps.toList && PyProof.Rows.risingS (sg c) (r.map sg)) = true := h
    rw [Bool.and_eq_true] at h'
    have ih := rising_sg r c h'.2
    have hpc : p ≤ c := by
      have h1 := h'.1
      have e : PySem.Spec.ltCps (sg c).cps.toList (sg p).cps.toList = PySem.Spec.ltCps [c] [p] := rfl
      rw [e] at h1
      by_cases q : c < p
      · exfalso
        simp [PySem.Spec.ltCps, q] at h1
      · omega
    refine List.pairwise_cons.mpr ⟨fun d hd => ?_, ih⟩
    rcases List.mem_cons.mp hd with e | hd
    · omega
    · have := (List.pairwise_cons.mp ih).1 d hd
      omega
theorem sorted_sg {cs : List Nat} (h : PyProof.Rows.sortedS (cs.map sg) = true) : cs.Pairwise (· ≤ ·) := by
  cases cs with
  | nil => exact List.Pairwise.nil
  | cons c r => exact rising_sg r c h
/-- letters: ascending, from a to z -/
def Ltr (z : Str) (m : Nat) : Prop := z.length = m ∧ (TL.tl z).Pairwise (· < ·) ∧ ∀ c ∈ TL.tl z, 97 ≤ c ∧ c ≤ 122
def alpha : List Nat := TL.tl (Str.ofString "abcdefghijklmnopqrstuvwxyz")
theorem alpha_nodup : alpha.Nodup := by decide +kernel
theorem alpha_all : ∀ c ∈ alpha, 97 ≤ c ∧ c ≤ 122 := by decide +kernel
theorem alpha_len : alpha.length = 26 := by decide +kernel
theorem ltr_of {fs ds L : List Nat} (hp : (fs ++ L).Perm alpha) (hd : ds.Perm fs) (hs : ds.Pairwise (· ≤ ·)) : ds.Pairwise (· < ·) ∧ ∀ c ∈ ds, 97 ≤ c ∧ c ≤ 122 := by
  have nd : (fs ++ L).Nodup := hp.nodup_iff.mpr alpha_nodup
  have ndf : ds.Nodup := hd.nodup_iff.mpr (List.nodup_append.mp nd).1
  refine ⟨?_, fun c hc => alpha_all c (hp.mem_iff.mp (List.mem_append_left _ (hd.mem_iff.mp hc)))⟩
  have : ds.Pairwise (fun a b => a ≤ b ∧ a ≠ b) := List.Pairwise.and hs ndf
  exact this.imp fun ⟨h1, h2⟩ => by omega
theorem cutS_tl (z : Str) (lo hi : Option Int) : TL.tl (cutS z lo hi) = ((TL.tl z).drop (HT.sIx z.length 0 lo)).take (HT.sIx z.length z.length hi - HT.sIx z.length 0 lo) := by
  unfold cutS TL.tl
  simp
theorem cut_to {z : Str} {j : Nat} (h : j ≤ z.length) : TL.tl (cutS z none (some (j : Int))) = (TL.tl z).take j := by
  rw [cutS_tl, HT.sIx_none, HT.sIx_nat, List.drop_zero, Nat.min_eq_left h, Nat.sub_zero]
theorem cut_from {z : Str} {j : Nat} (h : j ≤ z.length) : TL.tl (cutS z (some (j : Int)) none) = (TL.tl z).drop j := by
  rw [cutS_tl, HT.sIx_none, HT.sIx_nat, Nat.min_eq_left h]
  exact List.take_of_length_le (by rw [List.length_drop, TL.len_tl]; omega)
theorem kp_seq {K : PySem.W.Frag} {p a : Addr} {H H' : Hp} {kvs : List (Key × V)} {xs : List V} (k : Kp p H H') (hp : H p = some (.dK kvs)) (h : SqL K H a xs) : SqL K H' a xs := by
  rcases h with (h | ⟨o, h⟩) | h
  · exact .inl (.inl (k _ _ h (ne_of h hp (by intro z; cases z))))
  · exact .inl (.inr ⟨o, k _ _ h (ne_of h hp (by intro z; cases z))⟩)
  · exact .inr h
theorem kp_seqT {K : PySem.W.Frag} {p a : Addr} {H H' : Hp} {kvs : List (Key × V)} {xs : List V} (k : Kp p H H') (hp : H p = some (.dK kvs)) (h : SqT K H a xs) : SqT K H' a xs := by
  rcases h with (h | ⟨o, h⟩) | h
  · exact .inl (.inl (k _ _ h (ne_of h hp (by intro z; cases z))))
  · exact .inl (.inr ⟨o, k _ _ h (ne_of h hp (by intro z; cases z))⟩)
  · exact .inr h
theorem at_of' {α : Type} {xs : List α} {z : Int} {j : Nat} {v : α} (e : z = (j : Int)) (h : xs[j]? = some v) : atI xs z = some v := by
  rw [e]
  exact atI_nat h
end Vf
set_option Elab.async false
set_option linter.all false
set_option maxRecDepth 100000
set_option maxHeartbeats 4000000
namespace Vf
open PySem L2 PyProof.Rows
def top (i : Nat) : Stmt := PySem.Challenge.pw_bestcodes_k40_shapes_by_tables.main.body.getD i (.Pass ⟨0, 0, 0, 0⟩)
structure TxtA (K : PySem.W.Frag) (mg : Str → Option Value) : Prop where
  int : mg "int" = none
  len : mg "len" = none
  list : mg "list" = none
  range : mg "range" = none
  sorted : mg "sorted" = none
def spPen (K : PySem.W.Frag) : Sp := fun vs H Q _ => ∃ (s : Addr) (ns : List Int), vs = [.ref s] ∧ SqL K H s (ns.map V.int) ∧ ns.length ≤ 63 ∧
  ∀ (p c : Addr) (H' : Hp), H p = none → H c = none → Pen H' p c 0 → Same H H' → Q (.ref p) H'
def spDraw : Sp := fun vs H Q _ => ∃ (p c : Addr) (m : Int) (n : Nat), vs = [.ref p, .int m] ∧ Pen H p c n ∧ n ≤ 2 ^ 30 ∧ 0 < m ∧ m < 2 ^ 200 ∧
  ∀ (d : Int) (H' : Hp), 0 ≤ d → d < m → Pen H' p c (n + 1) → Kp p H H' → Q (.int d) H'
/-- a pick out of a list; out of a text -/
def spPickL (K : PySem.W.Frag) : Sp := fun vs H Q _ => ∃ (p c a : Addr) (xs : List V) (n : Nat), vs = [.ref p, .ref a] ∧ Pen H p c n ∧ n ≤ 2 ^ 30 ∧ SqL K H a xs ∧ 0 < xs.length ∧ xs.length ≤ 1000 ∧
  ∀ (j : Nat) (v : V) (H' : Hp), xs[j]? = some v → Pen H' p c (n + 1) → Kp p H H' → Q v H'
def spPickS : Sp := fun vs H Q _ => ∃ (p c : Addr) (z : Str) (n : Nat), vs = [.ref p, .str z] ∧ Pen H p c n ∧ n ≤ 2 ^ 30 ∧ 0 < z.length ∧ z.length ≤ 1000 ∧
  ∀ (j x : Nat) (H' : Hp), (TL.tl z)[j]? = some x → Pen H' p c (n + 1) → Kp p H H' → Q (.str (sg x)) H'
def spLetters : Sp := fun vs H Q _ => ∃ (p c : Addr) (m : Nat) (n : Nat), vs = [.ref p, .int m] ∧ Pen H p c n ∧ n ≤ 2 ^ 29 ∧ m ≤ 26 ∧
  ∀ (z : Str) (H' : Hp), Ltr z m → Pen H' p c (n + m) → Kp p H H' → Q (.str z) H'
def spBits : Sp := fun vs H Q _ => ∃ (p c : Addr) (n : Nat), vs = [.ref p] ∧ Pen H p c n ∧ n ≤ 2 ^ 29 ∧
  ∀ (d : Int) (H' : Hp), 0 ≤ d → d < 100 → Pen H' p c (n + 3) → Kp p H H' → Q (.int d) H'
section
variable {P : Program} {w : World} {K : PySem.W.Frag} {mg : Str → Option Value} {base : Heap}
abbrev s__law_pen : Stmt := top 17
abbrev N__law_pen : List Str := ["_law_script"]
abbrev P__law_pen : List Str := ["_law_script"]
theorem sc__law_pen : FnScope N__law_pen P__law_pen (defScope s__law_pen) := ⟨rfl, rfl, rfl, by decide +kernel, rfl, by decide +kernel, by decide +kernel⟩

theorem ok_pen {f : Addr} {fd : FuncData} (F : Fun K "_law_pen" "_law_pen" s__law_pen f fd) (T : TxtA K mg) : FnOk P w K mg base CX0 1 f fd P__law_pen (spPen K) := by
  refine F.ok sc__law_pen (fun vs H Q E h => ?_) (fun cdv A outer s H vs Q E hr h => ?_)
  · obtain ⟨s, ns, rfl, _⟩ := h
    rfl
  · obtain ⟨s, ns, rfl, hS, hl, k⟩ := h
    refine ⟨_, (pss_one (ps_ret (pe_disp (pps_cons pe_str (pe_callTy call_list_of (by rfl) T.list boot_list (pa_cons (pe_slice sl_list (pv 0) po_none (po_some pe_int)) pa_nil)) (pps_cons pe_str pe_int (pps_cons pe_str pe_int pps_nil))) (by rfl) (by rfl) (fun z => by cases z) (by decide)))), ?_⟩
    intro p hp
    have s1 : Same H (L2.upd H p (.dK [])) := same_new hp
    refine ⟨_, rfl, _, rfl, s, _, rfl, s1.seq hS, fun q hq => ?_⟩
    have nqp : q ≠ p := (ne_of_none (upd_same (H := H) (a := p)) hq).symm
    refine ⟨q, _, rfl, Or.inl (SqL.of upd_same), fun c hc => ?_⟩
    have ncp : c ≠ p := fun e => by rw [e, upd_ne nqp.symm, upd_same] at hc; cases hc
    have ncq : c ≠ q := fun e => by rw [e, upd_same] at hc; cases hc
    refine ⟨(by rw [upd_ne ncp.symm, upd_ne nqp.symm, upd_same]), penKV c 0 0, rfl, (by show 3 ≤ 15; decide), ?_⟩
    rw [pen_merge]
    have hcn : H c = none := s1.free ((same_new hq).free hc)
    have hqn : H q = none := s1.free hq
    have ec : cutV (ns.map V.int) none (some 63) = (ns.take 63).map V.int := by
      rw [List.take_of_length_le hl]
      unfold cutV
      simp [HT.sIx]
      exact List.take_of_length_le (by rw [List.length_map]; omega)
    refine k p c _ hp hcn ⟨0, 0, ns.take 63, ⟨upd_same, ?_, ?_, by decide, by decide⟩, by decide⟩ ?_
    · rw [upd_ne ncp, upd_same, ec]
    · rw [List.length_take]; omega
    · intro b o e
      rw [upd_ne (ne_of_none e hp), upd_ne (ne_of_none e hcn), upd_ne (ne_of_none e hqn), upd_ne (ne_of_none e hp)]
      exact e
abbrev s__law_draw : Stmt := top 18
abbrev N__law_draw : List Str := ["_law_pen_here", "_law_many", "_law_digit", "_law_at", "_law_cell", "_law_mixed"]
abbrev P__law_draw : List Str := ["_law_pen_here", "_law_many"]
theorem sc__law_draw : FnScope N__law_draw P__law_draw (defScope s__law_draw) := ⟨rfl, rfl, rfl, by decide +kernel, rfl, by decide +kernel, by decide +kernel⟩

theorem ok_draw {f : Addr} {fd : FuncData} (F : Fun K "_law_draw" "_law_draw" s__law_draw f fd) (T : TxtA K mg) : FnOk P w K mg base CX0 1 f fd P__law_draw spDraw := by
  refine F.ok sc__law_draw (fun vs H Q E h => ?_) (fun cdv A outer s H vs Q E hr h => ?_)
  · obtain ⟨p, c, m, n, rfl, _⟩ := h
    rfl
  · obtain ⟨p, c, m, n, rfl, ⟨a, l, cs, ⟨h1, h2, h3, h4, h5⟩, h6⟩, hn, m0, m1, k⟩ := h
    have hu := hu_of hr
    have ncp : c ≠ p := ne_of h2 h1 (by intro z; cases z)
    refine ⟨_, (pss_cons (ps_if (pt_cmpR op_ge (pe_dget hu (pv 0) pe_str (fun _ _ => rfl)) (pv 1) (nomark _)) (pss_cons (ps_set (i := 2) sc__law_draw.nd rfl (Or.inl rfl) (pe_op op_modN (pe_callTy call_int1 (by rfl) T.int boot_int (pa_cons (pe_dget hu (pv 0) pe_str (fun _ _ => rfl)) pa_nil)) (pv 1)))
      (pss_cons (ps_dput hu (pv 0) pe_str (pe_op op_fdivW (pe_dget hu (pv 0) pe_str (fun _ _ => rfl)) (pv 1)) rfl)
      (pss_one (ps_ret (pv 2))))) pss_nil)
      (pss_cons (ps_set (i := 3) sc__law_draw.nd rfl (Or.inl rfl) (pe_dget hu (pv 0) pe_str (fun _ _ => rfl)))
      (pss_cons (ps_dput hu (pv 0) pe_str (pe_op op_add (pv 3) pe_int) rfl)
      (pss_cons (ps_set (i := 4) sc__law_draw.nd rfl (Or.inl rfl) (pe_op op_add (pe_op op_mul pe_int (pv 3)) pe_int))
      (pss_cons (ps_if (pt_cmpR (op_neD hr.units) (pe_dget hu (pv 0) pe_str (fun _ _ => rfl)) (pe_lst pa_nil) (nomark _)) (pss_one (ps_set (i := 4) sc__law_draw.nd rfl (Or.inl rfl) (pe_ix ix_list (pe_dget hu (pv 0) pe_str (fun _ _ => rfl)) (pe_op op_modN (pe_callTy call_int1 (by rfl) T.int boot_int (pa_cons (pv 3) pa_nil)) (pe_callB call_len (by rfl) T.len PySem.boot_len (pa_cons (pe_dget hu (pv 0) pe_str (fun _ _ => rfl)) pa_nil))) (fun _ _ => rfl)))) pss_nil)
      (pss_cons (ps_if (PW.pt (pw_and (pt_cmpR op_lt (pv 3) (pe_callB call_len (by rfl) T.len PySem.boot_len (pa_cons (pe_dget hu (pv 0) pe_str (fun _ _ => rfl)) pa_nil)) (nomark _)) (pw_and1 (pt_cmpR op_ge (pv 4) (pe_op op_pow pe_int pe_int) (nomark _))))) (pss_cons (ps_dput hu (pv 0) pe_str (pe_op op_fdivW (pe_op op_sub (pv 4) (pe_op op_pow pe_int pe_int)) (pv 1)) rfl)
      (pss_one (ps_ret (pe_op op_modN (pe_callTy call_int1 (by rfl) T.int boot_int (pa_cons (pe_op op_sub (pv 4) (pe_op op_pow pe_int pe_int)) pa_nil)) (pv 1))))) pss_nil)
      (pss_cons (ps_set (i := 5) sc__law_draw.nd rfl (Or.inl rfl) (pe_op op_add (pe_op op_add (pe_op op_add (pe_op op_mul (pe_op op_modN (pe_callTy call_int1 (by rfl) T.int boot_int (pa_cons (pv 4) pa_nil)) pe_int) pe_int) (pe_op op_mul (pe_op op_mul pe_int (pv 3)) (pv 3))) (pe_op op_mul pe_int (pv 3))) pe_int))
      (pss_cons (ps_set (i := 5) sc__law_draw.nd rfl (Or.inl rfl) (pe_op op_modN (pe_callTy call_int1 (by rfl) T.int boot_int (pa_cons (pv 5) pa_nil)) pe_int))
      (pss_cons (ps_set (i := 5) sc__law_draw.nd rfl (Or.inl rfl) (pe_op op_modN (pe_callTy call_int1 (by rfl) T.int boot_int (pa_cons (pe_op op_mul (pv 5) (pe_op op_add (pv 5) pe_int)) pa_nil)) pe_int))
      (pss_one (ps_ret (pe_op op_modN (pe_callTy call_int1 (by rfl) T.int boot_int (pa_cons (pe_op op_fdivN (pe_op op_modN (pe_callTy call_int1 (by rfl) T.int boot_int (pa_cons (pe_op op_mul (pv 5) (pv 5)) pa_nil)) pe_int) pe_int) pa_nil)) (pv 1))))))))))))), ?_⟩
    -- if pen['left'] >= many
    refine ⟨_, rfl, p, _, rfl, dget_left h1, _, rfl, _, _, rfl, rfl, _, rfl, ite2 (fun c1 => ?_) (fun c1 => ?_)⟩
    · have c1 : m ≤ l := by simpa using c1
      refine ⟨_, rfl, p, _, rfl, dget_left h1, Or.inl ⟨_, rfl, _, rfl, _, _, rfl, rfl, (by omega), ?_⟩⟩
      refine ⟨_, rfl, p, _, rfl, dget_left h1, _, rfl, _, _, rfl, rfl, ⟨m0, log_lt m0 m1⟩, _, rfl, p, _, rfl, dput_left h1, ?_⟩
      refine ⟨_, rfl, k _ _ (fmod_bounds m0).1 (fmod_bounds m0).2 ⟨a, l / m, cs, ⟨upd_same, by rw [upd_ne ncp]; exact h2, h3, h4, Int.ediv_nonneg h5 (by omega)⟩, by omega⟩ kp_upd⟩
    · -- at; pen['at'] = at + 1; cell = 41 * at + 23
      refine ⟨_, rfl, p, _, rfl, dget_at h1, ?_⟩
      refine ⟨_, rfl, _, _, rfl, rfl, _, rfl, p, _, rfl, dput_at h1, ?_⟩
      have g1 : (L2.upd H p (.dK (penKV c (a + 1) l))) p = some (.dK (penKV c (a + 1) l)) := upd_same
      have g2 : (L2.upd H p (.dK (penKV c (a + 1) l))) c = some (.lst (cs.map V.int)) := by rw [upd_ne ncp]; exact h2
      have gk : Kp p H (L2.upd H p (.dK (penKV c (a + 1) l))) := kp_upd
      revert g1 g2 gk
      generalize L2.upd H p (.dK (penKV c (a + 1) l)) = H1
      intro g1 g2 gk
      refine ⟨_, rfl, _, _, rfl, rfl, Or.inl ⟨by decide, by decide⟩, _, _, rfl, rfl, ?_⟩
      -- the cell
      refine ⟨_, rfl, p, _, rfl, dget_cells g1, (by show 0 ≤ sizeLine; decide), fun q hq => ?_⟩
      have nqp : q ≠ p := (ne_of_none g1 hq).symm
      have nqc : q ≠ c := (ne_of_none g2 hq).symm
      have k1 : (L2.upd H1 q (.lst [])) p = some (.dK (penKV c (a + 1) l)) := by rw [upd_ne nqp.symm]; exact g1
      have k2 : (L2.upd H1 q (.lst [])) c = some (.lst (cs.map V.int)) := by rw [upd_ne nqc.symm]; exact g2
      have kk : Kp p H (L2.upd H1 q (.lst [])) := gk.trans (Kp.of (same_new hq))
      refine ⟨_, _, dp_ints K k2, .lst (SqL.of upd_same) .nil, PySem.W.shaped_ints cs, shaped_nil, _, rfl, ?_⟩
      rw [eqv_ints_nil]
      revert k1 k2 kk
      generalize L2.upd H1 q (.lst []) = H2
      intro k1 k2 kk
      refine ite2 (fun c2 => ?_) (fun c2 => ?_)
      · have hlen : 0 < cs.length := by cases cs with | nil => simp at c2 | cons x r => simp
        have hm := fmod_bounds (x := a) (m := ((cs.map V.int).length : Int)) (by rw [List.length_map]; omega)
        have hj : (a.fmod ((cs.map V.int).length : Int)).toNat < cs.length := by rw [List.length_map] at *; omega
        refine ⟨_, rfl, p, _, rfl, dget_cells k1, _, rfl, Or.inl ⟨_, rfl, _, rfl, p, _, rfl, dget_cells k1, _, _, rfl, Or.inl ⟨_, SqL.of k2, rfl⟩, _, _, rfl, rfl, (by rw [List.length_map]; omega), ?_⟩⟩
        refine ⟨c, _, _, V.int (cs[(a.fmod ((cs.map V.int).length : Int)).toNat]), rfl, rfl, SqL.of k2, ?_, ?_⟩
        · exact at_of (Int.toNat_of_nonneg hm.1).symm (by rw [List.getElem?_map, List.getElem?_eq_getElem hj]; rfl)
        · generalize cs[(a.fmod ((cs.map V.int).length : Int)).toNat] = x
          refine ⟨_, rfl, _, rfl, p, _, rfl, dget_cells k1, V.ref c, _, rfl, Or.inl ⟨_, SqL.of k2, rfl⟩, _, _, rfl, rfl, _, rfl, ite2 (fun c3 => ?_) (fun c3 => ?_)⟩
          · refine ⟨_, rfl, _, _, rfl, rfl, ⟨by decide, by decide, by decide⟩, _, _, rfl, rfl, _, rfl, ite2 (fun c4 => ?_) (fun c4 => ?_)⟩
            · have c4 : (10 : Int) ^ 18 ≤ x := by simpa using c4
              refine ⟨_, rfl, _, _, rfl, rfl, ⟨by decide, by decide, by decide⟩, _, _, rfl, rfl, _, rfl, _, _, rfl, rfl, ⟨m0, log_lt m0 m1⟩, _, rfl, p, _, rfl, dput_left k1, ?_⟩
              refine ⟨_, rfl, _, _, rfl, rfl, ⟨by decide, by decide, by decide⟩, _, _, rfl, rfl, Or.inl ⟨_, rfl, _, rfl, _, _, rfl, rfl, (by omega), ?_⟩⟩
              refine k _ _ (fmod_bounds m0).1 (fmod_bounds m0).2 ⟨a + 1, _, cs, ⟨upd_same, by rw [upd_ne ncp]; exact k2, h3, by omega, Int.ediv_nonneg ?_ (by omega)⟩, by omega⟩ (kk.trans kp_upd)
              show 0 ≤ x - 10 ^ 18
              omega
            · refine ⟨_, rfl, Or.inl ⟨_, rfl, _, _, rfl, rfl, (by show (2147483587 : Int) ≠ 0; decide), _, _, rfl, rfl, Or.inr ⟨by decide, by decide⟩, ?_⟩⟩
              refine ⟨_, rfl, _, _, rfl, rfl, Or.inl ⟨by decide, by decide⟩, _, rfl, _, _, rfl, rfl, Or.inr ⟨by omega, by omega⟩, ?_⟩
              refine ⟨_, _, rfl, rfl, _, rfl, _, _, rfl, rfl, Or.inl ⟨by decide, by decide⟩, _, _, rfl, rfl, _, _, rfl, rfl, ?_⟩
              refine ⟨_, rfl, Or.inl ⟨_, rfl, _, _, rfl, rfl, (by show (2147483629 : Int) ≠ 0; decide), ?_⟩⟩
              have hz := fmod_bounds (x := x.fmod 2147483587 * 48271 + 40014 * a * a + 59 * a + 17) (m := 2147483629) (by decide)
              refine ⟨_, rfl, _, rfl, _, _, rfl, rfl, _, _, rfl, rfl, Or.inl ⟨by omega, by omega⟩, Or.inl ⟨_, rfl, _, _, rfl, rfl, (by show (2147483549 : Int) ≠ 0; decide), ?_⟩⟩
              refine ⟨_, rfl, _, rfl, _, _, rfl, rfl, Or.inl ?_, Or.inl ⟨_, rfl, _, _, rfl, rfl, (by show (2147483579 : Int) ≠ 0; decide), _, _, rfl, rfl, ⟨by decide, by decide⟩, Or.inl ⟨_, rfl, _, rfl, _, _, rfl, rfl, (by omega), ?_⟩⟩⟩
              · have hy := fmod_bounds (x := (x.fmod 2147483587 * 48271 + 40014 * a * a + 59 * a + 17).fmod 2147483629 * ((x.fmod 2147483587 * 48271 + 40014 * a * a + 59 * a + 17).fmod 2147483629 + 69621)) (m := 2147483549) (by decide)
                exact ⟨by omega, by omega⟩
              exact k _ _ (fmod_bounds m0).1 (fmod_bounds m0).2 ⟨a + 1, l, cs, ⟨k1, k2, h3, by omega, h5⟩, by omega⟩ kk
          · refine ⟨_, rfl, Or.inl ⟨_, rfl, _, _, rfl, rfl, (by show (2147483587 : Int) ≠ 0; decide), _, _, rfl, rfl, Or.inr ⟨by decide, by decide⟩, ?_⟩⟩
            refine ⟨_, rfl, _, _, rfl, rfl, Or.inl ⟨by decide, by decide⟩, _, rfl, _, _, rfl, rfl, Or.inr ⟨by omega, by omega⟩, ?_⟩
            refine ⟨_, _, rfl, rfl, _, rfl, _, _, rfl, rfl, Or.inl ⟨by decide, by decide⟩, _, _, rfl, rfl, _, _, rfl, rfl, ?_⟩
            refine ⟨_, rfl, Or.inl ⟨_, rfl, _, _, rfl, rfl, (by show (2147483629 : Int) ≠ 0; decide), ?_⟩⟩
            have hz := fmod_bounds (x := x.fmod 2147483587 * 48271 + 40014 * a * a + 59 * a + 17) (m := 2147483629) (by decide)
            refine ⟨_, rfl, _, rfl, _, _, rfl, rfl, _, _, rfl, rfl, Or.inl ⟨by omega, by omega⟩, Or.inl ⟨_, rfl, _, _, rfl, rfl, (by show (2147483549 : Int) ≠ 0; decide), ?_⟩⟩
            refine ⟨_, rfl, _, rfl, _, _, rfl, rfl, Or.inl ?_, Or.inl ⟨_, rfl, _, _, rfl, rfl, (by show (2147483579 : Int) ≠ 0; decide), _, _, rfl, rfl, ⟨by decide, by decide⟩, Or.inl ⟨_, rfl, _, rfl, _, _, rfl, rfl, (by omega), ?_⟩⟩⟩
            · have hy := fmod_bounds (x := (x.fmod 2147483587 * 48271 + 40014 * a * a + 59 * a + 17).fmod 2147483629 * ((x.fmod 2147483587 * 48271 + 40014 * a * a + 59 * a + 17).fmod 2147483629 + 69621)) (m := 2147483549) (by decide)
              exact ⟨by omega, by omega⟩
            exact k _ _ (fmod_bounds m0).1 (fmod_bounds m0).2 ⟨a + 1, l, cs, ⟨k1, k2, h3, by omega, h5⟩, by omega⟩ kk
      · skip
        refine ⟨_, rfl, _, rfl, p, _, rfl, dget_cells k1, V.ref c, _, rfl, Or.inl ⟨_, SqL.of k2, rfl⟩, _, _, rfl, rfl, _, rfl, ite2 (fun c3 => ?_) (fun c3 => ?_)⟩
        · refine ⟨_, rfl, _, _, rfl, rfl, ⟨by decide, by decide, by decide⟩, _, _, rfl, rfl, _, rfl, ite2 (fun c4 => ?_) (fun c4 => ?_)⟩
          · have c4 : (10 : Int) ^ 18 ≤ 41 * a + 23 := by simpa using c4
            refine ⟨_, rfl, _, _, rfl, rfl, ⟨by decide, by decide, by decide⟩, _, _, rfl, rfl, _, rfl, _, _, rfl, rfl, ⟨m0, log_lt m0 m1⟩, _, rfl, p, _, rfl, dput_left k1, ?_⟩
            refine ⟨_, rfl, _, _, rfl, rfl, ⟨by decide, by decide, by decide⟩, _, _, rfl, rfl, Or.inl ⟨_, rfl, _, rfl, _, _, rfl, rfl, (by omega), ?_⟩⟩
            refine k _ _ (fmod_bounds m0).1 (fmod_bounds m0).2 ⟨a + 1, _, cs, ⟨upd_same, by rw [upd_ne ncp]; exact k2, h3, by omega, Int.ediv_nonneg ?_ (by omega)⟩, by omega⟩ (kk.trans kp_upd)
            show 0 ≤ 41 * a + 23 - 10 ^ 18
            omega
          · refine ⟨_, rfl, Or.inl ⟨_, rfl, _, _, rfl, rfl, (by show (2147483587 : Int) ≠ 0; decide), _, _, rfl, rfl, Or.inr ⟨by decide, by decide⟩, ?_⟩⟩
            refine ⟨_, rfl, _, _, rfl, rfl, Or.inl ⟨by decide, by decide⟩, _, rfl, _, _, rfl, rfl, Or.inr ⟨by omega, by omega⟩, ?_⟩
            refine ⟨_, _, rfl, rfl, _, rfl, _, _, rfl, rfl, Or.inl ⟨by decide, by decide⟩, _, _, rfl, rfl, _, _, rfl, rfl, ?_⟩
            refine ⟨_, rfl, Or.inl ⟨_, rfl, _, _, rfl, rfl, (by show (2147483629 : Int) ≠ 0; decide), ?_⟩⟩
            have hz := fmod_bounds (x := (41 * a + 23).fmod 2147483587 * 48271 + 40014 * a * a + 59 * a + 17) (m := 2147483629) (by decide)
            refine ⟨_, rfl, _, rfl, _, _, rfl, rfl, _, _, rfl, rfl, Or.inl ⟨by omega, by omega⟩, Or.inl ⟨_, rfl, _, _, rfl, rfl, (by show (2147483549 : Int) ≠ 0; decide), ?_⟩⟩
            refine ⟨_, rfl, _, rfl, _, _, rfl, rfl, Or.inl ?_, Or.inl ⟨_, rfl, _, _, rfl, rfl, (by show (2147483579 : Int) ≠ 0; decide), _, _, rfl, rfl, ⟨by decide, by decide⟩, Or.inl ⟨_, rfl, _, rfl, _, _, rfl, rfl, (by omega), ?_⟩⟩⟩
            · have hy := fmod_bounds (x := ((41 * a + 23).fmod 2147483587 * 48271 + 40014 * a * a + 59 * a + 17).fmod 2147483629 * (((41 * a + 23).fmod 2147483587 * 48271 + 40014 * a * a + 59 * a + 17).fmod 2147483629 + 69621)) (m := 2147483549) (by decide)
              exact ⟨by omega, by omega⟩
            exact k _ _ (fmod_bounds m0).1 (fmod_bounds m0).2 ⟨a + 1, l, cs, ⟨k1, k2, h3, by omega, h5⟩, by omega⟩ kk
        · refine ⟨_, rfl, Or.inl ⟨_, rfl, _, _, rfl, rfl, (by show (2147483587 : Int) ≠ 0; decide), _, _, rfl, rfl, Or.inr ⟨by decide, by decide⟩, ?_⟩⟩
          refine ⟨_, rfl, _, _, rfl, rfl, Or.inl ⟨by decide, by decide⟩, _, rfl, _, _, rfl, rfl, Or.inr ⟨by omega, by omega⟩, ?_⟩
          refine ⟨_, _, rfl, rfl, _, rfl, _, _, rfl, rfl, Or.inl ⟨by decide, by decide⟩, _, _, rfl, rfl, _, _, rfl, rfl, ?_⟩
          refine ⟨_, rfl, Or.inl ⟨_, rfl, _, _, rfl, rfl, (by show (2147483629 : Int) ≠ 0; decide), ?_⟩⟩
          have hz := fmod_bounds (x := (41 * a + 23).fmod 2147483587 * 48271 + 40014 * a * a + 59 * a + 17) (m := 2147483629) (by decide)
          refine ⟨_, rfl, _, rfl, _, _, rfl, rfl, _, _, rfl, rfl, Or.inl ⟨by omega, by omega⟩, Or.inl ⟨_, rfl, _, _, rfl, rfl, (by show (2147483549 : Int) ≠ 0; decide), ?_⟩⟩
          refine ⟨_, rfl, _, rfl, _, _, rfl, rfl, Or.inl ?_, Or.inl ⟨_, rfl, _, _, rfl, rfl, (by show (2147483579 : Int) ≠ 0; decide), _, _, rfl, rfl, ⟨by decide, by decide⟩, Or.inl ⟨_, rfl, _, rfl, _, _, rfl, rfl, (by omega), ?_⟩⟩⟩
          · have hy := fmod_bounds (x := ((41 * a + 23).fmod 2147483587 * 48271 + 40014 * a * a + 59 * a + 17).fmod 2147483629 * (((41 * a + 23).fmod 2147483587 * 48271 + 40014 * a * a + 59 * a + 17).fmod 2147483629 + 69621)) (m := 2147483549) (by decide)
            exact ⟨by omega, by omega⟩
          exact k _ _ (fmod_bounds m0).1 (fmod_bounds m0).2 ⟨a + 1, l, cs, ⟨k1, k2, h3, by omega, h5⟩, by omega⟩ kk
/-- the draw, as its callers have it -/
structure TxtD (K : PySem.W.Frag) (mg : Str → Option Value) (fD : Addr) : Prop extends TxtA K mg where
  m_law_draw : mg "_law_draw" = some (.ref fD)
  k_law_draw : PySem.W.keepIn K (.ref fD) = true
abbrev s__law_pick : Stmt := top 19
abbrev N__law_pick : List Str := ["_law_pen_here", "_law_items"]
abbrev P__law_pick : List Str := ["_law_pen_here", "_law_items"]
theorem sc__law_pick : FnScope N__law_pick P__law_pick (defScope s__law_pick) := ⟨rfl, rfl, rfl, by decide +kernel, rfl, by decide +kernel, by decide +kernel⟩

theorem ok_pickL {f fD : Addr} {fd fdD : FuncData} (F : Fun K "_law_pick" "_law_pick" s__law_pick f fd) (T : TxtD K mg fD) (FD : Fun K "_law_draw" "_law_draw" s__law_draw fD fdD) (b_law_draw : Binds K fdD P__law_draw []) : FnOk P w K mg base CX0 2 f fd P__law_pick (spPickL K) := by
  have G_law_draw : FnOk P w K mg base CX0 1 fD fdD P__law_draw spDraw := ok_draw FD T.toTxtA
  refine F.ok sc__law_pick (fun vs H Q E h => ?_) (fun cdv A outer s H vs Q E hr h => ?_)
  · obtain ⟨p, c, a, xs, n, rfl, _⟩ := h
    rfl
  · obtain ⟨p, c, a, xs, n, rfl, hp, hn, hS, h0, h1, k⟩ := h
    refine ⟨_, (pss_one (ps_ret (pe_ix ix_list (pv 1) (pe_call G_law_draw (hr.mono (by decide)) (by rfl) T.m_law_draw T.k_law_draw b_law_draw .nil pass0 (pa_cons (pv 0) (pa_cons (pe_callB call_len (by rfl) T.len PySem.boot_len (pa_cons (pv 1) pa_nil)) pa_nil))) (fun _ _ => rfl)))), ?_⟩
    refine ⟨_, rfl, _, rfl, _, rfl, _, _, rfl, Or.inl ⟨_, hS, rfl⟩, p, c, _, n, rfl, hp, hn, by omega, by omega, fun d H' d0 d1 hp' kk => ?_⟩
    obtain ⟨kvs, hd⟩ := hp.dk
    have hj : d.toNat < xs.length := by omega
    exact ⟨a, xs, d, _, rfl, rfl, kp_seq kk hd hS, at_of (Int.toNat_of_nonneg d0).symm (List.getElem?_eq_getElem hj), k _ _ _ (List.getElem?_eq_getElem hj) hp' kk⟩
theorem ok_pickS {f fD : Addr} {fd fdD : FuncData} (F : Fun K "_law_pick" "_law_pick" s__law_pick f fd) (T : TxtD K mg fD) (FD : Fun K "_law_draw" "_law_draw" s__law_draw fD fdD) (b_law_draw : Binds K fdD P__law_draw []) : FnOk P w K mg base CX0 2 f fd P__law_pick spPickS := by
  have G_law_draw : FnOk P w K mg base CX0 1 fD fdD P__law_draw spDraw := ok_draw FD T.toTxtA
  refine F.ok sc__law_pick (fun vs H Q E h => ?_) (fun cdv A outer s H vs Q E hr h => ?_)
  · obtain ⟨p, c, z, n, rfl, _⟩ := h
    rfl
  · obtain ⟨p, c, z, n, rfl, hp, hn, h0, h1, k⟩ := h
    refine ⟨_, (pss_one (ps_ret (pe_ix ix_str (pv 1) (pe_call G_law_draw (hr.mono (by decide)) (by rfl) T.m_law_draw T.k_law_draw b_law_draw .nil pass0 (pa_cons (pv 0) (pa_cons (pe_callB call_len (by rfl) T.len PySem.boot_len (pa_cons (pv 1) pa_nil)) pa_nil))) (fun _ _ => rfl)))), ?_⟩
    have hz : z.length ≤ sizeLine := Nat.le_of_lt (small1000 h1)
    refine ⟨_, rfl, _, rfl, _, rfl, _, _, rfl, ⟨hz, rfl⟩, p, c, _, n, rfl, hp, hn, by omega, by omega, fun d H' d0 d1 hp' kk => ?_⟩
    have hj : d.toNat < (TL.tl z).length := by rw [← TL.len_tl]; omega
    exact ⟨z, d, _, rfl, rfl, hz, at_of' (Int.toNat_of_nonneg d0).symm (List.getElem?_eq_getElem hj), k _ _ _ (List.getElem?_eq_getElem hj) hp' kk⟩
end
end Vf
set_option Elab.async false
set_option linter.all false
set_option maxRecDepth 100000
set_option maxHeartbeats 4000000
/-! nested data -/
namespace Vf
open PySem L2 PyProof.Rows
def Dat : HO → Prop
  | .lst _ => True
  | .tup _ => True
  | .frz _ _ => True
  | _ => False
/-- lists and tuples stand as they stood -/
def Kl (H H' : Hp) : Prop := ∀ b o, H b = some o → Dat o → H' b = some o
theorem Kl.refl (H : Hp) : Kl H H := fun _ _ e _ => e
theorem Kl.trans {H H1 H2 : Hp} (a : Kl H H1) (b : Kl H1 H2) : Kl H H2 := fun c o e d => b c o (a c o e d) d
theorem Kl.same {H H' : Hp} (s : Same H H') : Kl H H' := fun b o e _ => s b o e
theorem Kl.kp {H H' : Hp} {p : Addr} {kvs : List (Key × V)} (k : Kp p H H') (hp : H p = some (.dK kvs)) : Kl H H' := fun b o e d => k b o e fun z => by
  rw [z, hp] at e
  cases e
  exact d
theorem Kl.del {H H' : Hp} (k : Kl H H') (a : Addr) : Kl (L2.del H a) (L2.del H' a) := fun b o e d => by
  by_cases hb : b = a
  · rw [hb, del_same] at e; cases e
  · rw [del_ne hb] at e ⊢
    exact k b o e d
theorem Kl.undel (H : Hp) (a : Addr) : Kl (L2.del H a) H := fun b o e d => by
  by_cases hb : b = a
  · rw [hb, del_same] at e; cases e
  · rw [del_ne hb] at e
    exact e
theorem del_upd (H : Hp) (a : Addr) (o : HO) : L2.del (L2.upd H a o) a = L2.del H a := by
  funext b
  by_cases hb : b = a
  · rw [hb, del_same, del_same]
  · rw [del_ne hb, del_ne hb, upd_ne hb]
theorem Kl.rd {H H' : Hp} {a : Addr} {u : HO} (k : Kl H H') (d : Dat u) (h : Rd H a u) : Rd H' a u := by
  rcases h with h | ⟨o, h⟩
  · exact .inl (k _ _ h d)
  · exact .inr ⟨o, k _ _ h trivial⟩
theorem Kl.seq {K : PySem.W.Frag} {H H' : Hp} {a : Addr} {xs : List V} (k : Kl H H') (h : SqL K H a xs) : SqL K H' a xs := by
  rcases h with h | h
  · exact .inl (k.rd trivial h)
  · exact .inr h
theorem Kl.seqT {K : PySem.W.Frag} {H H' : Hp} {a : Addr} {xs : List V} (k : Kl H H') (h : SqT K H a xs) : SqT K H' a xs := by
  rcases h with h | h
  · exact .inl (k.rd trivial h)
  · exact .inr h
end Vf
namespace L2
open PySem PyProof.Rows Vf
mutual
theorem Dp.kl {K : PySem.W.Frag} {H H' : Hp} (k : Kl H H') : ∀ (d : PyData) (v : V), Dp K H v d → Dp K H' v d
  | .none, _, h => by cases h; exact .non
  | .bool b, _, h => by cases h; exact .bl b
  | .int i, _, h => by cases h; exact .int i
  | .str x, _, h => by cases h; exact .str x
  | .list ds, _, h => by
    cases h with
    | lst a b => exact .lst (k.seq a) (DpAll.kl k ds _ b)
  | .tuple ds, _, h => by
    cases h with
    | tup a b => exact .tup (k.seqT a) (DpAll.kl k ds _ b)
  | .dict kvs, _, h => by cases h
theorem DpAll.kl {K : PySem.W.Frag} {H H' : Hp} (k : Kl H H') : ∀ (ds : List PyData) (vs : List V), DpAll K H vs ds → DpAll K H' vs ds
  | [], _, h => by cases h; exact .nil
  | d :: ds, _, h => by
    cases h with
    | cons a b => exact .cons (Dp.kl k d _ a) (DpAll.kl k ds _ b)
end
theorem Dp.mv {K : PySem.W.Frag} {H H' : Hp} {v : V} {d : PyData} (h : Dp K H v d) (k : Kl H H') : Dp K H' v d := Dp.kl k d v h
theorem DpAll.mv {K : PySem.W.Frag} {H H' : Hp} {vs : List V} {ds : List PyData} (h : DpAll K H vs ds) (k : Kl H H') : DpAll K H' vs ds := DpAll.kl k ds vs h
theorem DpAll.length {K : PySem.W.Frag} {H : Hp} : ∀ {vs : List V} {ds : List PyData}, DpAll K H vs ds → vs.length = ds.length
  | _, _, .nil => rfl
  | _, _, .cons _ t => congrArg Nat.succ (DpAll.length t)
theorem DpAll.get {K : PySem.W.Frag} {H : Hp} : ∀ {vs : List V} {ds : List PyData} {i : Nat} {d : PyData}, DpAll K H vs ds → ds[i]? = some d → ∃ v, vs[i]? = some v ∧ Dp K H v d
  | _, _, _, _, .nil, e => by simp at e
  | _, _, 0, _, .cons h t, e => by simp at e; subst e; exact ⟨_, rfl, h⟩
  | _, _, i + 1, d, .cons h t, e => by
    obtain ⟨v, h1, h2⟩ := DpAll.get (i := i) (d := d) t (by simpa using e)
    exact ⟨v, by simpa using h1, h2⟩
theorem DpAll.append {K : PySem.W.Frag} {H : Hp} : ∀ {vs ws : List V} {ds es : List PyData}, DpAll K H vs ds → DpAll K H ws es → DpAll K H (vs ++ ws) (ds ++ es)
  | _, _, _, _, .nil, h => h
  | _, _, _, _, .cons a t, h => .cons a (DpAll.append t h)
theorem DpAll.snoc {K : PySem.W.Frag} {H : Hp} {vs : List V} {v : V} {ds : List PyData} {d : PyData} (h : DpAll K H vs ds) (g : Dp K H v d) : DpAll K H (vs ++ [v]) (ds ++ [d]) := h.append (.cons g .nil)
theorem DpAll.take {K : PySem.W.Frag} {H : Hp} : ∀ {vs : List V} {ds : List PyData} (n : Nat), DpAll K H vs ds → DpAll K H (vs.take n) (ds.take n)
  | _, _, 0, _ => .nil
  | _, _, n + 1, .nil => .nil
  | _, _, n + 1, .cons a t => .cons a (DpAll.take n t)
theorem DpAll.drop {K : PySem.W.Frag} {H : Hp} : ∀ {vs : List V} {ds : List PyData} (n : Nat), DpAll K H vs ds → DpAll K H (vs.drop n) (ds.drop n)
  | _, _, 0, h => h
  | _, _, n + 1, .nil => .nil
  | _, _, n + 1, .cons a t => DpAll.drop n t
theorem Dp.listE {K : PySem.W.Frag} {H : Hp} {v : V} {ds : List PyData} (h : Dp K H v (.list ds)) : ∃ a xs, v = .ref a ∧ SqL K H a xs ∧ DpAll K H xs ds := by
  cases h with
  | lst a b => exact ⟨_, _, rfl, a, b⟩
theorem Dp.tupE {K : PySem.W.Frag} {H : Hp} {v : V} {ds : List PyData} (h : Dp K H v (.tuple ds)) : ∃ a xs, v = .ref a ∧ SqT K H a xs ∧ DpAll K H xs ds := by
  cases h with
  | tup a b => exact ⟨_, _, rfl, a, b⟩
theorem Dp.intE {K : PySem.W.Frag} {H : Hp} {v : V} {i : Int} (h : Dp K H v (.int i)) : v = .int i := by
  cases h; rfl
theorem Dp.strE {K : PySem.W.Frag} {H : Hp} {v : V} {i : Str} (h : Dp K H v (.str i)) : v = .str i := by
  cases h; rfl
theorem dpAll_ints (K : PySem.W.Frag) (H : Hp) : ∀ cs : List Int, DpAll K H (cs.map V.int) (cs.map PyData.int)
  | [] => .nil
  | c :: r => .cons (.int c) (dpAll_ints K H r)
theorem dpAll_intsE {K : PySem.W.Frag} {H : Hp} : ∀ {cs : List Int} {vs : List V}, DpAll K H vs (cs.map PyData.int) → vs = cs.map V.int
  | [], _, h => by cases h; rfl
  | c :: r, _, h => by
    cases h with
    | cons a b => rw [a.intE, dpAll_intsE b]; rfl
theorem dpAll_strs (K : PySem.W.Frag) (H : Hp) : ∀ cs : List Str, DpAll K H (cs.map V.str) (cs.map PyData.str)
  | [] => .nil
  | c :: r => .cons (.str c) (dpAll_strs K H r)
theorem dpAll_strsE {K : PySem.W.Frag} {H : Hp} : ∀ {cs : List Str} {vs : List V}, DpAll K H vs (cs.map PyData.str) → vs = cs.map V.str
  | [], _, h => by cases h; rfl
  | c :: r, _, h => by
    cases h with
    | cons a b => rw [a.strE, dpAll_strsE b]; rfl
end L2
namespace Vf
open PySem L2 PyProof.Rows
/-! a code's data -/
abbrev Row := List (Int × Int)
def tupD (gb : Int × Int) : PyData := .tuple [.int gb.1, .int gb.2]
def rowD (r : Row) : PyData := .list (r.map tupD)
def rowT (r : Row) : PyData := .tuple (r.map tupD)
def rowsD (rs : List Row) : PyData := .list (rs.map rowD)
def rowsT (rs : List Row) : PyData := .tuple (rs.map rowT)
def intsD (es : List Int) : PyData := .list (es.map PyData.int)
def intsT (es : List Int) : PyData := .tuple (es.map PyData.int)
def codeD (z : Str) (rs : List Row) (es : List Int) : PyData := .tuple [.str z, rowsD rs, intsD es]
/-- rows and ends of a code with so many values -/
structure Good (m : Nat) (rs : List Row) (es : List Int) : Prop where
  len : es.length = rs.length
  pos : 0 < rs.length
  row : ∀ r ∈ rs, r.length = m ∧ ∀ gb ∈ r, 0 ≤ gb.1 ∧ gb.1 < rs.length ∧ 0 ≤ gb.2 ∧ gb.2 < 100
  ends : ∀ e ∈ es, 0 ≤ e ∧ e < 100
theorem del_some {H : Hp} {a b : Addr} {o : HO} (e : L2.del H a b = some o) : b ≠ a ∧ H b = some o := by
  by_cases hb : b = a
  · rw [hb, del_same] at e; cases e
  · rw [del_ne hb] at e
    exact ⟨hb, e⟩
/-- a row of a code of c states -/
def RowOk (m : Nat) (c : Int) (r : Row) : Prop := r.length = m ∧ ∀ gb ∈ r, 0 ≤ gb.1 ∧ gb.1 < c ∧ 0 ≤ gb.2 ∧ gb.2 < 100
/-- a comprehension without a test -/
theorem lcYes {σ : L2.St} {H : Hp} {A B : Hp → Prop} (h : A H) : tYes σ H (fun b H' => if b = true then A H' else B H') := by
  show (if true = true then A H else B H)
  rw [if_pos rfl]
  exact h
end Vf
namespace L2
theorem Same.put {H H' : Hp} {r : PySem.Addr} {o : HO} (s : Same H H') (h : H r = none) : Same H (upd H' r o) := fun b u e => by
  rw [upd_ne (ne_of_none e h)]
  exact s b u e
end L2
set_option Elab.async false
set_option linter.all false
set_option maxRecDepth 100000
set_option maxHeartbeats 4000000
/-! for i, c in enumerate(text); walks of texts -/
namespace Vf
open PySem L2 PyProof.Rows
/-- the text x, each sign in a new pair with its place -/
def Itse (x : Str) : It :=
  ⟨fun i _ => i < x.cps.size, fun i H v H' => ∃ T c, v = .ref T ∧ H T = none ∧ H' = L2.upd H T (.tup [.int (i : Nat), .str (sg c)]) ∧ x.cps[i]? = some c, fun i _ => x.cps.size ≤ i⟩
theorem turn_enumS {P : Program} {w : World} {K : PySem.W.Frag} {elts : List Expr} {kk : Nat} {tpos : Pos} (x : Str) (t : Tok) (e it : Addr) :
    Turn P w K (.Tuple elts kk tpos) (Itse x) [e, it] e (fun i h => (∃ old, IsEnum h e it ((i : Nat) : Int) old) ∧ h.IsStrIter it (strIterType x) x t i ∧ e ≠ it ∧ i ≤ x.cps.size) where
  mem := by simp
  obj := fun i h st b hb => by
    obtain ⟨⟨old, he⟩, ⟨o, ho, hc, hd⟩, _⟩ := st
    have e' : b = e ∨ b = it := by simpa using hb
    rcases e' with z | z
    · rw [z]; exact ⟨_, he, fun v q => nomatch q⟩
    · rw [z]; exact ⟨o, ho, fun v q => by rw [hd] at q; cases q⟩
  keep := fun i h h' st k => let ⟨⟨old, he⟩, ⟨o, ho, r⟩, hne, hle⟩ := st; ⟨⟨old, k e (by simp) _ he⟩, ⟨o, k it (by simp) o ho, r⟩, hne, hle⟩
  item := by
    intro X hP hw hK hc i pins s σ H E I hf st hg
    subst hP hw hK
    obtain ⟨⟨old, he⟩, hit, hne, hle⟩ := st
    have hg : i < x.cps.size := hg
    have hel : e < s.heap.objs.size := Heap.lt_size he
    have hil : it < s.heap.objs.size := by obtain ⟨_, q, _⟩ := hit; exact Heap.lt_size q
    have D : Draws X.prog X.w X.A.in1 it [it] x.cps.size (fun i v => ∃ c u, x.cps[i]? = some c ∧ v = .str ⟨#[c]⟩ u) (fun i h => h.IsStrIter it (strIterType x) x t i) := Draws.text (A := X.A.in1) (show X.A.in1.handled = none from I.ok.hd hc) it x t
    refine wpAny_pyNext_enum_itemC D he hit hg hne (by simpa using hne) fun y h' tk hy ho hit' hT hsz hk => ?_
    obtain ⟨c, u, hcx, rfl⟩ := hy
    refine ⟨_, rfl, wpAny_letOwnedTupleGo_enum (s := { s with heap := h', toks := tk + 1 }) ho fun h'' he' sb => ?_⟩
    have hT2 : h''.get? s.heap.objs.size = some { cls := .type "tuple", data := .seq #[.int i tk, .str ⟨#[c]⟩ u] } := (sb.2 _ (Nat.ne_of_gt hel)).trans hT
    have new : ObjOk X.prog X.w (L2.upd H s.heap.objs.size (.tup [.int (i : Nat), .str (sg c)])) h'' s.heap.objs.size (.tup [.int (i : Nat), .str (sg c)]) :=
      ⟨by show 2 ≤ sizeLine; decide, [.int i tk, .str ⟨#[c]⟩ u], .cons ⟨_, rfl⟩ (.cons ⟨_, rfl⟩ .nil), ⟨_, hT2, rfl, _, rfl⟩⟩
    have I1 : Inv X pins σ (L2.upd H s.heap.objs.size (.tup [.int (i : Nat), .str (sg c)])) { s with heap := h'', toks := tk + 1 } :=
      I.turnedNew (ch := [e, it]) (fun b ob hb q => (sb.2 b (fun z => hb (by simp [z]))).trans (hk b ob (fun z => hb (by simp [z])) (fun z => hb (by simp [z])) q)) hf (Nat.le_refl _) new
    obtain ⟨oi, hoi, r⟩ := hit'
    refine ⟨.ref s.heap.objs.size, _, I1, rfl, ⟨_, c, rfl, I.hok.fresh (Nat.le_refl _), rfl, hcx⟩, ⟨⟨.str ⟨#[c]⟩ u, ?_⟩, ⟨oi, (sb.2 it (Ne.symm hne)).trans hoi, r⟩, hne, hg⟩, fun b hb => ?_⟩
    · have e1 : ((i + 1 : Nat) : Int) = (i : Int) + 1 := by omega
      rw [e1]; exact he'
    · have hb' : b < s.heap.objs.size := by
        have e' : b = e ∨ b = it := by simpa using hb
        rcases e' with z | z
        · rw [z]; exact hel
        · rw [z]; exact hil
      rw [upd_ne (Nat.ne_of_lt hb')]
      exact (hf b hb).1
  done := by
    intro X hP hw hK hc i pins s σ H E I hf st hg
    subst hP hw hK
    obtain ⟨⟨old, he⟩, hit, hne, hle⟩ := st
    have hg : x.cps.size ≤ i := hg
    have ei : i = x.cps.size := Nat.le_antisymm hle hg
    subst ei
    obtain ⟨f0, f1, f2, f3, f4, f5⟩ := hf it (by simp)
    have D : Draws X.prog X.w X.A.in1 it [it] x.cps.size (fun i v => ∃ c u, x.cps[i]? = some c ∧ v = .str ⟨#[c]⟩ u) (fun i h => h.IsStrIter it (strIterType x) x t i) := Draws.text (A := X.A.in1) (show X.A.in1.handled = none from I.ok.hd hc) it x t
    exact wpAny_pyNext_enum_endD D he hit fun h' eb => ⟨rfl, I.turned (t' := s.toks) (fun b o hb q => eb b o hb q) f0 f1 f3 f4 f5⟩
  self := fun A i s Q E st h => let ⟨⟨_, he⟩, _⟩ := st; wpAny_pyIter_enum he h
def iEnumS (ta : TA) : TI := fun σ H R => ta σ H fun vs H1 => ∃ z, vs = [.str z] ∧ R (Itse z) H1
theorem pi_enumS {X : Cx} {e : Expr} {ta : TA} {p pos tpos : Pos} {elts : List Expr} {kk : Nat} (hg : Gl X "enumerate") (hm : X.mg "enumerate" = none) (ha : PA X [e] ta) (hs : starEach [e] X.env = [(false, eval e X.env)] := by rfl) :
    PI X (.Tuple elts kk tpos) (.Call (.Name "enumerate" p) [e] [] pos) (iEnumS ta) := by
  refine ⟨fun pins s σ H R I h => ?_⟩
  refine Call_ (ld_blt I hg hm boot_enumerate (PyProof.Rows.callWith_type1 (thn (ha.run pos pins s σ H _ I h) fun us s1 ⟨vs, H1, I1, r1, q1⟩ => ?_) hs rfl))
  obtain ⟨x, ex, q⟩ := q1
  subst ex
  cases r1 with
  | cons r rr =>
    cases rr
    obtain ⟨t, rfl⟩ := r
    refine call_enumerate_str fun h' he hit hsz hk => wpAny_pyIter_enum he ?_
    have I2 : Inv X pins σ H1 { s1 with heap := h' } := I1.kept (t' := s1.toks) hk
    refine ⟨s1.heap.objs.size + 1, [s1.heap.objs.size + 1, s1.heap.objs.size], _, _, H1, rfl, I2, turn_enumS x t (s1.heap.objs.size + 1) s1.heap.objs.size, ⟨⟨.none, he⟩, hit, Nat.succ_ne_self _, Nat.zero_le _⟩, fun b hb => ?_, q⟩
    have e' : b = s1.heap.objs.size + 1 ∨ b = s1.heap.objs.size := by simpa using hb
    have hle : s1.heap.objs.size ≤ b := by
      rcases e' with z | z
      · rw [z]; exact Nat.le_add_right _ _
      · rw [z]; exact Nat.le_refl _
    exact I1.fpOk hle (I1.hok.fresh hle)
theorem walk_strS {z : Str} : Walk (Its z) z.length (fun _ => True) (fun i H v H' => H' = H ∧ ∃ c, (TL.tl z)[i]? = some c ∧ v = .str (sg c)) :=
  ⟨fun _ _ hi _ => hi, fun _ _ => Nat.le_refl _, fun i _ _ _ _ _ y => ⟨y.1, by obtain ⟨c, h, e⟩ := y.2; exact ⟨c, by simpa using h, e⟩⟩⟩
theorem walk_enumS {z : Str} : Walk (Itse z) z.length (fun _ => True) (fun i H v H' => ∃ T c, v = .ref T ∧ H T = none ∧ H' = L2.upd H T (.tup [.int (i : Nat), .str (sg c)]) ∧ (TL.tl z)[i]? = some c) :=
  ⟨fun _ _ hi _ => hi, fun _ _ => Nat.le_refl _, fun i _ _ _ _ _ y => by obtain ⟨T, c, h1, h2, h3, h4⟩ := y; exact ⟨T, c, h1, h2, h3, by simpa using h4⟩⟩
/-! rules with the written part named, for a comprehension's block -/
section
variable {X : Cx} {K : PySem.W.Frag} {tg : Expr}
def rTupOf (K : PySem.W.Frag) : List V → Hp → VK → Prop := fun xs H Q => ∃ p ys, xs = [.ref p] ∧ ((SqL K H p ys ∧ ∀ l, H l = none → Q (.ref l) (L2.upd H l (.tup ys))) ∨ (SqT K H p ys ∧ Q (.ref p) H))
def rLstOf (K : PySem.W.Frag) : List V → Hp → VK → Prop := fun xs H Q => ∃ p ys, xs = [.ref p] ∧ (SqL K H p ys ∨ SqT K H p ys) ∧ ∀ l, H l = none → Q (.ref l) (L2.upd H l (.lst ys))
def rLenOf (K : PySem.W.Frag) : List V → Hp → VK → Prop := fun xs H Q => ∃ x n, xs = [x] ∧ LenV K x H n ∧ Q (.int (n : Nat)) H
theorem call_tupleK (hK : X.K = K) : CallR X (.type "tuple") (rTupOf K) := by subst hK; exact call_tuple_of
theorem call_listK (hK : X.K = K) : CallR X (.type "list") (rLstOf K) := by subst hK; exact call_list_of
theorem call_lenK (hK : X.K = K) : CallR X (.builtin "len") (rLenOf K) := by subst hK; exact call_len
theorem pi_listK (hK : X.K = K) {l : Expr} {tl : TE} (hl : PE X l tl) : PI X tg l (iList K tl) := by subst hK; exact pi_list hl
theorem pi_tupK (hK : X.K = K) {l : Expr} {tl : TE} (hl : PE X l tl) : PI X tg l (iTup K tl) := by subst hK; exact pi_tup hl
theorem ix_listK (hK : X.K = K) : IxR X (rIxL K) := by subst hK; exact ix_list
theorem ix_tupK (hK : X.K = K) : IxR X (rIxT K) := by subst hK; exact ix_tup
end
theorem pi_or {X : Cx} {tg e : Expr} {w1 w2 : TI} (h1 : PI X tg e w1) (h2 : PI X tg e w2) : PI X tg e (fun σ H R => w1 σ H R ∨ w2 σ H R) :=
  ⟨fun pins s σ H R I h => h.elim (fun h => h1.run pins s σ H R I h) fun h => h2.run pins s σ H R I h⟩
end Vf
set_option Elab.async false
set_option linter.all false
set_option maxRecDepth 100000
set_option maxHeartbeats 4000000
/-! for i, x in enumerate(tuple) -/
namespace Vf
open PySem L2 PyProof.Rows
theorem meets_enumerate_newT (l : Addr) (o : Obj) (items : Array Value) (ht : o.cls = .type "tuple") (hd : ∃ n, o.data = .seq items n) :
    Meets (Builtin.«enumerate.__new__» ⟨[.type "enumerate", .ref l], []⟩) (fun _ R s => s.heap.get? l = some o ∧
      R (.ok (.ret (.ref (s.heap.push { cls := .type "tuple_iterator", data := .fields #[.ref l, .int 0 0] }).objs.size)))
        { s with heap := (s.heap.push { cls := .type "tuple_iterator", data := .fields #[.ref l, .int 0 0] }).push { cls := .type "enumerate", data := .fields #[.none, .bool false, .ref s.heap.objs.size, rawInt 0, .none, .none] } }) :=
  .of_wp fun prog w A R s h => by
    obtain ⟨hl, h⟩ := h
    have hT : s.heap.IsTuple l items := ⟨o, hl, ht, hd⟩
    obtain ⟨hp, g, d, tk, os⟩ := s
    have hsub := sub_enumerate
    wp_walk
    refine wpAny_stack_any fun st => wpAny_pure ?_
    split
    · rename_i c _ _ _ _ _
      cases (c == Value.type "enumerate")
      · wp_walk using wpAny_pyIter_tuple hT
        exact ⟨_, rfl, h⟩
      · wp_walk using wpAny_pyIter_tuple hT
        exact ⟨_, rfl, h⟩
    · wp_walk using wpAny_pyIter_tuple hT
      exact ⟨_, rfl, h⟩
section
variable {prog : Program} {w : World} {A : Around} {E : Value → Shared → Prop} {s : Shared}
theorem call_enumerate_tuple {l : Addr} {items : Array Value} {Q : Value → Shared → Prop} (hL : s.heap.IsTuple l items)
    (h : ∀ h', IsEnum h' (s.heap.objs.size + 1) s.heap.objs.size 0 .none → h'.IsTupleIter s.heap.objs.size l 0 → h'.objs.size = s.heap.objs.size + 2 →
      (∀ b o, s.heap.get? b = some o → h'.get? b = some o) → Q (.ref (s.heap.objs.size + 1)) { s with heap := h' }) :
    wpAny (model prog w) A (call (.type "enumerate") [.ref l]) Q E s := by
  obtain ⟨o, hl, hc, hd⟩ := hL
  refine callType_new F.called_enumerate (by decide) (F.typeCall_enumerate_1 _) (F.newCall_enumerate_1 _) (fun obj => F.args_object_init_2 obj _) F.entry_enumerate_new
    (meets_enumerate_newT l o items hc hd) ⟨hl, ?_⟩
  have hz : (s.heap.push { cls := .type "tuple_iterator", data := .fields #[.ref l, .int 0 0] }).objs.size = s.heap.objs.size + 1 := Heap.size_push ..
  show _ ∧ _
  rw [hz]
  have he : IsEnum ((s.heap.push { cls := .type "tuple_iterator", data := .fields #[.ref l, .int 0 0] }).push
      { cls := .type "enumerate", data := .fields #[.none, .bool false, .ref s.heap.objs.size, rawInt 0, .none, .none] }) (s.heap.objs.size + 1) s.heap.objs.size 0 .none := by
    have := Heap.get?_push_size (s.heap.push { cls := .type "tuple_iterator", data := .fields #[.ref l, .int 0 0] })
      (o := { cls := .type "enumerate", data := .fields #[.none, .bool false, .ref s.heap.objs.size, rawInt 0, .none, .none] }) rfl
    rw [hz] at this; exact this
  refine ⟨⟨_, he, rfl⟩, h _ he ⟨_, Heap.get?_push_of_some _ (Heap.get?_push_size _ rfl), rfl, rfl⟩ (by rw [Heap.size_push, hz]) fun b o x => Heap.get?_push_of_some _ (Heap.get?_push_of_some _ x)⟩
end
/-- the tuple at a, each item in a new pair -/
def Itet (K : PySem.W.Frag) (a : Addr) : It :=
  ⟨fun i H => ∃ (xs : List V) (x : V), SqT K H a xs ∧ xs[i]? = some x, fun i H v H' => ∃ T x, v = .ref T ∧ H T = none ∧ H' = L2.upd H T (.tup [.int (i : Nat), x]) ∧ ∀ xs, SqT K H a xs → xs[i]? = some x, fun i H => ∃ xs : List V, SqT K H a xs ∧ xs.length ≤ i⟩
theorem drawsAtEnd {prog : Program} {w : World} {A : Around} (hh : A.handled = none) (it t : Addr) (items : Array Value) (i : Nat) (hi : items[i]? = none) :
    Draws prog w A it [it, t] i (fun _ _ => False) (fun j h => j = i ∧ h.IsTupleIter it t j ∧ h.IsTuple t items) where
  live := fun _ _ st => let ⟨o, ho, _⟩ := st.2.1; ⟨o, ho⟩
  frame := fun _ _ _ st hk => ⟨st.1, st.2.1.at fun o e => hk it (by simp) o e, st.2.2.at fun o e => hk t (by simp) o e⟩
  item := fun j s Q E hj st hQ => absurd st.1 (Nat.ne_of_lt hj)
  done := fun s Q E st hE => wpAny_nextOf_tuple_end hh st.2.1 st.2.2 hi hE
theorem turn_enumT {P : Program} {w : World} {K : PySem.W.Frag} {elts : List Expr} {kk : Nat} {tpos : Pos} (a e it : Addr) :
    Turn P w K (.Tuple elts kk tpos) (Itet K a) [e, it] e (fun i h => (∃ old, IsEnum h e it ((i : Nat) : Int) old) ∧ h.IsTupleIter it a i ∧ e ≠ it) where
  mem := by simp
  obj := fun i h st b hb => by
    obtain ⟨⟨old, he⟩, ⟨o, ho, hc, hd⟩, _⟩ := st
    have e' : b = e ∨ b = it := by simpa using hb
    rcases e' with z | z
    · rw [z]; exact ⟨_, he, fun v q => nomatch q⟩
    · rw [z]; exact ⟨o, ho, fun v q => by rw [hd] at q; cases q⟩
  keep := fun i h h' st k => let ⟨⟨old, he⟩, hi, hne⟩ := st; ⟨⟨old, k e (by simp) _ he⟩, hi.at fun o q => k it (by simp) o q, hne⟩
  item := by
    intro X hP hw hK hc i pins s σ H E I hf st hg
    subst hP hw hK
    obtain ⟨⟨old, he⟩, hit, hne⟩ := st
    obtain ⟨xs, x, hq, hx⟩ := hg
    obtain ⟨its, rv, p, hz⟩ := I.tuple hq
    obtain ⟨u0, hu, ru⟩ := rv.get hx
    have hel : e < s.heap.objs.size := Heap.lt_size he
    have hil : it < s.heap.objs.size := by obtain ⟨_, q, _⟩ := hit; exact Heap.lt_size q
    have hae : a ≠ e := fun z => by
      obtain ⟨o, ho, hc, _⟩ := p
      rw [z] at ho
      have : o = _ := Option.some.inj (ho.symm.trans he)
      rw [this] at hc
      exact absurd (Value.type.inj hc) (by decide)
    have hai : a ≠ it := fun z => by
      obtain ⟨o, ho, hc, _⟩ := p
      obtain ⟨o2, ho2, hc2, _⟩ := hit
      rw [z] at ho
      rw [Option.some.inj (ho.symm.trans ho2), hc2] at hc
      exact absurd (Value.type.inj hc) (by decide)
    have D := Draws.tuple (prog := X.prog) (w := X.w) (A := X.A.in1) (show X.A.in1.handled = none from I.ok.hd hc) it a hai its.toArray
    have hlt : i < its.toArray.size := by
      obtain ⟨h, _⟩ := List.getElem?_eq_some_iff.mp hu
      simpa using h
    refine wpAny_pyNext_enum_itemC D he ⟨hit, p⟩ hlt hne (by simp [hne, Ne.symm hae]) fun y h' tk hy ho hit' hT hsz hk => ?_
    obtain rfl : u0 = y := by
      have : its.toArray[i]? = some u0 := by simpa using hu
      exact Option.some.inj (this.symm.trans hy)
    refine ⟨_, rfl, wpAny_letOwnedTupleGo_enum (s := { s with heap := h', toks := tk + 1 }) ho fun h'' he' sb => ?_⟩
    have hT2 : h''.get? s.heap.objs.size = some { cls := .type "tuple", data := .seq #[.int i tk, u0] } := (sb.2 _ (Nat.ne_of_gt hel)).trans hT
    have new : ObjOk X.prog X.w (L2.upd H s.heap.objs.size (.tup [.int (i : Nat), x])) h'' s.heap.objs.size (.tup [.int (i : Nat), x]) :=
      ⟨by show 2 ≤ sizeLine; decide, [.int i tk, u0], .cons ⟨_, rfl⟩ (.cons ru .nil), ⟨_, hT2, rfl, _, rfl⟩⟩
    have I1 : Inv X pins σ (L2.upd H s.heap.objs.size (.tup [.int (i : Nat), x])) { s with heap := h'', toks := tk + 1 } :=
      I.turnedNew (ch := [e, it]) (fun b ob hb q => (sb.2 b (fun z => hb (by simp [z]))).trans (hk b ob (fun z => hb (by simp [z])) (fun z => hb (by simp [z])) q)) hf (Nat.le_refl _) new
    refine ⟨.ref s.heap.objs.size, _, I1, rfl, ⟨_, x, rfl, I.hok.fresh (Nat.le_refl _), rfl, fun ys hy => ?_⟩, ⟨⟨u0, ?_⟩, hit'.1.at fun o q => (sb.2 it (Ne.symm hne)).trans q, hne⟩, fun b hb => ?_⟩
    · rw [I.tuple_inj hy hq]; exact hx
    · have e1 : ((i + 1 : Nat) : Int) = (i : Int) + 1 := by omega
      rw [e1]; exact he'
    · have hb' : b < s.heap.objs.size := by
        have e' : b = e ∨ b = it := by simpa using hb
        rcases e' with z | z
        · rw [z]; exact hel
        · rw [z]; exact hil
      rw [upd_ne (Nat.ne_of_lt hb')]
      exact (hf b hb).1
  done := by
    intro X hP hw hK hc i pins s σ H E I hf st hg
    subst hP hw hK
    obtain ⟨⟨old, he⟩, hit, hne⟩ := st
    obtain ⟨xs, hq, hx⟩ := hg
    obtain ⟨its, rv, p, hz⟩ := I.tuple hq
    obtain ⟨f0, f1, f2, f3, f4, f5⟩ := hf it (by simp)
    have hl := rv.length
    have hai : a ≠ it := fun z => by
      obtain ⟨o, ho, hc, _⟩ := p
      obtain ⟨o2, ho2, hc2, _⟩ := hit
      rw [z] at ho
      rw [Option.some.inj (ho.symm.trans ho2), hc2] at hc
      exact absurd (Value.type.inj hc) (by decide)
    have D := drawsAtEnd (prog := X.prog) (w := X.w) (A := X.A.in1) (show X.A.in1.handled = none from I.ok.hd hc) it a its.toArray i (by simp; omega)
    exact wpAny_pyNext_enum_endD D he ⟨rfl, hit, p⟩ fun h' eb => ⟨rfl, I.turned (t' := s.toks) (fun b o hb q => eb b o hb q) f0 f1 f3 f4 f5⟩
  self := fun A i s Q E st h => let ⟨⟨_, he⟩, _⟩ := st; wpAny_pyIter_enum he h
def iEnumT (K : PySem.W.Frag) (ta : TA) : TI := fun σ H R => ta σ H fun vs H1 => ∃ a xs, vs = [.ref a] ∧ SqT K H1 a xs ∧ R (Itet K a) H1
theorem pi_enumT {X : Cx} {e : Expr} {ta : TA} {p pos tpos : Pos} {elts : List Expr} {kk : Nat} (hg : Gl X "enumerate") (hm : X.mg "enumerate" = none) (ha : PA X [e] ta) (hs : starEach [e] X.env = [(false, eval e X.env)] := by rfl) :
    PI X (.Tuple elts kk tpos) (.Call (.Name "enumerate" p) [e] [] pos) (iEnumT X.K ta) := by
  refine ⟨fun pins s σ H R I h => ?_⟩
  refine Call_ (ld_blt I hg hm boot_enumerate (PyProof.Rows.callWith_type1 (thn (ha.run pos pins s σ H _ I h) fun us s1 ⟨vs, H1, I1, r1, q1⟩ => ?_) hs rfl))
  obtain ⟨a, xs, ex, hq, q⟩ := q1
  subst ex
  cases r1 with
  | cons r rr =>
    cases rr
    cases r
    obtain ⟨its, rv, p', hz⟩ := I1.tuple hq
    refine call_enumerate_tuple p' fun h' he hit hsz hk => wpAny_pyIter_enum he ?_
    have I2 : Inv X pins σ H1 { s1 with heap := h' } := I1.kept (t' := s1.toks) hk
    refine ⟨s1.heap.objs.size + 1, [s1.heap.objs.size + 1, s1.heap.objs.size], _, _, H1, rfl, I2, turn_enumT a (s1.heap.objs.size + 1) s1.heap.objs.size, ⟨⟨.none, he⟩, hit, Nat.succ_ne_self _⟩, fun b hb => ?_, q⟩
    have e' : b = s1.heap.objs.size + 1 ∨ b = s1.heap.objs.size := by simpa using hb
    have hle : s1.heap.objs.size ≤ b := by
      rcases e' with z | z
      · rw [z]; exact Nat.le_add_right _ _
      · rw [z]; exact Nat.le_refl _
    exact I1.fpOk hle (I1.hok.fresh hle)
theorem walk_enumT {K : PySem.W.Frag} {a : Addr} {xs : List V} : Walk (Itet K a) xs.length (fun H => SqT K H a xs) (fun i H v H' => ∃ T x, v = .ref T ∧ H T = none ∧ H' = L2.upd H T (.tup [.int (i : Nat), x]) ∧ xs[i]? = some x) :=
  ⟨fun i H hi h => ⟨xs, _, h, List.getElem?_eq_getElem hi⟩, fun H h => ⟨xs, h, Nat.le_refl _⟩, fun i H v H' hi h y => by obtain ⟨T, x, h1, h2, h3, h4⟩ := y; exact ⟨T, x, h1, h2, h3, h4 xs h⟩⟩
/-- a list or a tuple -/
def Sq (K : PySem.W.Frag) (H : Hp) (a : Addr) (xs : List V) : Prop := SqL K H a xs ∨ SqT K H a xs
def GSq (K : PySem.W.Frag) (H1 : Hp) (a : Addr) (xs : List V) (H : Hp) : Prop := (SqL K H1 a xs → SqL K H a xs) ∧ (SqT K H1 a xs → SqT K H a xs)
theorem GSq.kl {K : PySem.W.Frag} {H1 H : Hp} {a : Addr} {xs : List V} (k : Kl H1 H) : GSq K H1 a xs H := ⟨fun h => k.seq h, fun h => k.seqT h⟩
theorem GSq.same {K : PySem.W.Frag} {H1 H : Hp} {a : Addr} {xs : List V} (s : Same H1 H) : GSq K H1 a xs H := .kl (.same s)
theorem Sq.kl {K : PySem.W.Frag} {H1 H : Hp} {a : Addr} {xs : List V} (h : Sq K H1 a xs) (k : Kl H1 H) : Sq K H a xs := h.imp (fun h => k.seq h) (fun h => k.seqT h)
theorem Sq.same {K : PySem.W.Frag} {H1 H : Hp} {a : Addr} {xs : List V} (h : Sq K H1 a xs) (s : Same H1 H) : Sq K H a xs := h.kl (.same s)
theorem Sq.len {K : PySem.W.Frag} {H : Hp} {a : Addr} {xs : List V} (h : Sq K H a xs) : LenV K (.ref a) H xs.length := h.elim (fun h => Or.inl ⟨_, h, rfl⟩) (fun h => Or.inr ⟨_, h, rfl⟩)
def iSeq (K : PySem.W.Frag) (tl : TE) : TI := fun σ H R => tl σ H fun x H1 => ∃ a xs, x = .ref a ∧ Sq K H1 a xs ∧ ∀ J, Walk J xs.length (GSq K H1 a xs) (YAt xs) → R J H1
theorem pi_seq {X : Cx} {K : PySem.W.Frag} {tg l : Expr} {tl : TE} (hK : X.K = K) (hl : PE X l tl) : PI X tg l (iSeq K tl) := by
  subst hK
  refine ⟨fun pins s σ H R I h => ?_⟩
  refine thn (hl.run pins s σ H _ I h) fun v s1 ⟨x, H1, I1, r1, q1⟩ => ?_
  obtain ⟨a, xs, e, hq, q⟩ := q1
  subst e
  cases r1
  rcases hq with hq | hq
  · obtain ⟨its, rv, p, hz⟩ := I1.list hq
    refine wpAny_pyIter_list p.isList ?_
    refine ⟨s1.heap.objs.size, [s1.heap.objs.size], _, _, H1, rfl, I1.kept (t' := s1.toks) fun b o e => Heap.get?_push_of_some _ e, turn_list a _, ⟨_, Heap.get?_push_size _ rfl, rfl, rfl⟩, fun b hb => ?_, q _ (walk_list.mono (fun H g => g.1 hq) fun _ _ _ _ _ _ y => y)⟩
    have e : b = s1.heap.objs.size := by simpa using hb
    subst e
    exact I1.fpOk (Nat.le_refl _) (I1.hok.fresh (Nat.le_refl _))
  · obtain ⟨its, rv, p, hz⟩ := I1.tuple hq
    refine wpAny_pyIter_tuple (show s1.heap.IsTuple a its.toArray from p) ?_
    refine ⟨s1.heap.objs.size, [s1.heap.objs.size], _, _, H1, rfl, I1.kept (t' := s1.toks) fun b o e => Heap.get?_push_of_some _ e, turn_tuple a _, ⟨_, Heap.get?_push_size _ rfl, rfl, rfl⟩, fun b hb => ?_, q _ (walk_tup.mono (fun H g => g.2 hq) fun _ _ _ _ _ _ y => y)⟩
    have e : b = s1.heap.objs.size := by simpa using hb
    subst e
    exact I1.fpOk (Nat.le_refl _) (I1.hok.fresh (Nat.le_refl _))
def iEnumX (K : PySem.W.Frag) (ta : TA) : TI := fun σ H R => ta σ H fun vs H1 => ∃ a xs, vs = [.ref a] ∧ Sq K H1 a xs ∧ ∀ J, Walk J xs.length (GSq K H1 a xs) (fun i H v H' => ∃ T x, v = .ref T ∧ H T = none ∧ H' = L2.upd H T (.tup [.int (i : Nat), x]) ∧ xs[i]? = some x) → R J H1
theorem pi_enumX {X : Cx} {e : Expr} {ta : TA} {p pos tpos : Pos} {elts : List Expr} {kk : Nat} (hg : Gl X "enumerate") (hm : X.mg "enumerate" = none) (ha : PA X [e] ta) (hs : starEach [e] X.env = [(false, eval e X.env)] := by rfl) :
    PI X (.Tuple elts kk tpos) (.Call (.Name "enumerate" p) [e] [] pos) (iEnumX X.K ta) := by
  refine ⟨fun pins s σ H R I h => ?_⟩
  refine Call_ (ld_blt I hg hm boot_enumerate (PyProof.Rows.callWith_type1 (thn (ha.run pos pins s σ H _ I h) fun us s1 ⟨vs, H1, I1, r1, q1⟩ => ?_) hs rfl))
  obtain ⟨a, xs, ex, hq, q⟩ := q1
  subst ex
  cases r1 with
  | cons r rr =>
    cases rr
    cases r
    rcases hq with hq | hq
    · obtain ⟨its, rv, p', hz⟩ := I1.list hq
      refine call_enumerate_list p'.isList fun h' he hit hsz hk => wpAny_pyIter_enum he ?_
      have I2 : Inv X pins σ H1 { s1 with heap := h' } := I1.kept (t' := s1.toks) hk
      refine ⟨s1.heap.objs.size + 1, [s1.heap.objs.size + 1, s1.heap.objs.size], _, _, H1, rfl, I2, turn_enum a (s1.heap.objs.size + 1) s1.heap.objs.size, ⟨⟨.none, he⟩, hit, Nat.succ_ne_self _⟩, fun b hb => ?_, q _ (walk_enum.mono (fun H g => g.1 hq) fun i H v H' _ _ y => ?_)⟩
      · have e' : b = s1.heap.objs.size + 1 ∨ b = s1.heap.objs.size := by simpa using hb
        have hle : s1.heap.objs.size ≤ b := by
          rcases e' with z | z
          · rw [z]; exact Nat.le_add_right _ _
          · rw [z]; exact Nat.le_refl _
        exact I1.fpOk hle (I1.hok.fresh hle)
      · obtain ⟨T, x, y', h1, h2, h3, h4, h5⟩ := y
        obtain rfl : V.int i = x := Option.some.inj h4
        exact ⟨T, y', h1, h2, h3, h5⟩
    · obtain ⟨its, rv, p', hz⟩ := I1.tuple hq
      refine call_enumerate_tuple p' fun h' he hit hsz hk => wpAny_pyIter_enum he ?_
      have I2 : Inv X pins σ H1 { s1 with heap := h' } := I1.kept (t' := s1.toks) hk
      refine ⟨s1.heap.objs.size + 1, [s1.heap.objs.size + 1, s1.heap.objs.size], _, _, H1, rfl, I2, turn_enumT a (s1.heap.objs.size + 1) s1.heap.objs.size, ⟨⟨.none, he⟩, hit, Nat.succ_ne_self _⟩, fun b hb => ?_, q _ (walk_enumT.mono (fun H g => g.2 hq) fun i H v H' _ _ y => y)⟩
      have e' : b = s1.heap.objs.size + 1 ∨ b = s1.heap.objs.size := by simpa using hb
      have hle : s1.heap.objs.size ≤ b := by
        rcases e' with z | z
        · rw [z]; exact Nat.le_add_right _ _
        · rw [z]; exact Nat.le_refl _
      exact I1.fpOk hle (I1.hok.fresh hle)
/-- rows of states, as lists or as tuples -/
def Rws (K : PySem.W.Frag) (H : Hp) (R : V) (rs : List Row) : Prop := Dp K H R (rowsD rs) ∨ Dp K H R (rowsT rs)
def Ens (K : PySem.W.Frag) (H : Hp) (E : V) (es : List Int) : Prop := Dp K H E (intsD es) ∨ Dp K H E (intsT es)
theorem Rws.mv {K : PySem.W.Frag} {H H' : Hp} {R : V} {rs : List Row} (h : Rws K H R rs) (k : Kl H H') : Rws K H' R rs := h.imp (fun h => h.mv k) (fun h => h.mv k)
theorem Ens.mv {K : PySem.W.Frag} {H H' : Hp} {R : V} {rs : List Int} (h : Ens K H R rs) (k : Kl H H') : Ens K H' R rs := h.imp (fun h => h.mv k) (fun h => h.mv k)
theorem Ens.at {K : PySem.W.Frag} {H : Hp} {E : V} {es : List Int} (h : Ens K H E es) : ∃ e, E = .ref e ∧ Sq K H e (es.map V.int) := by
  rcases h with h | h
  · obtain ⟨e, ys, rfl, h1, h2⟩ := h.listE
    obtain rfl := dpAll_intsE h2
    exact ⟨e, rfl, Or.inl h1⟩
  · obtain ⟨e, ys, rfl, h1, h2⟩ := h.tupE
    obtain rfl := dpAll_intsE h2
    exact ⟨e, rfl, Or.inr h1⟩
theorem Rws.at {K : PySem.W.Frag} {H : Hp} {R : V} {rs : List Row} (h : Rws K H R rs) : ∃ r xs, R = .ref r ∧ Sq K H r xs ∧ xs.length = rs.length ∧
    ∀ (i : Nat) (hi : i < rs.length) (x : V), xs[i]? = some x → ∃ w ts, x = .ref w ∧ Sq K H w ts ∧ DpAll K H ts (rs[i].map tupD) := by
  rcases h with h | h
  · obtain ⟨r, xs, rfl, h1, h2⟩ := h.listE
    refine ⟨r, xs, rfl, Or.inl h1, by rw [h2.length, List.length_map], fun i hi x hx => ?_⟩
    obtain ⟨v, hv, hrow⟩ := h2.get (i := i) (d := rowD rs[i]) (by rw [List.getElem?_map, List.getElem?_eq_getElem hi]; rfl)
    obtain rfl : x = v := Option.some.inj (hx.symm.trans hv)
    obtain ⟨w, ts, rfl, hw1, hw2⟩ := hrow.listE
    exact ⟨w, ts, rfl, Or.inl hw1, hw2⟩
  · obtain ⟨r, xs, rfl, h1, h2⟩ := h.tupE
    refine ⟨r, xs, rfl, Or.inr h1, by rw [h2.length, List.length_map], fun i hi x hx => ?_⟩
    obtain ⟨v, hv, hrow⟩ := h2.get (i := i) (d := rowT rs[i]) (by rw [List.getElem?_map, List.getElem?_eq_getElem hi]; rfl)
    obtain rfl : x = v := Option.some.inj (hx.symm.trans hv)
    obtain ⟨w, ts, rfl, hw1, hw2⟩ := hrow.tupE
    exact ⟨w, ts, rfl, Or.inr hw1, hw2⟩
theorem tup_at {K : PySem.W.Frag} {H : Hp} {ts : List V} {r : Row} (h : DpAll K H ts (r.map tupD)) {j : Nat} {x : V} (hx : ts[j]? = some x) : ∃ (t : Addr) (hj : j < r.length), x = .ref t ∧ SqT K H t [.int (r[j]).1, .int (r[j]).2] := by
  obtain ⟨hj, _⟩ := List.getElem?_eq_some_iff.mp hx
  have hj' : j < r.length := by have := h.length; rw [List.length_map] at this; omega
  obtain ⟨v, hv, hb⟩ := h.get (i := j) (d := tupD r[j]) (by rw [List.getElem?_map, List.getElem?_eq_getElem hj']; rfl)
  obtain rfl : x = v := Option.some.inj (hx.symm.trans hv)
  obtain ⟨t, us, rfl, ht1, ht2⟩ := hb.tupE
  cases ht2 with
  | cons hA hB =>
    obtain rfl := hA.intE
    cases hB with
    | cons hB hC =>
      obtain rfl := hB.intE
      cases hC
      exact ⟨t, hj', rfl, ht1⟩
end Vf
set_option Elab.async false
set_option linter.all false
set_option maxRecDepth 100000
set_option maxHeartbeats 4000000
/-! own errors: made by an own __init__ over a plain own base; methods that may raise -/
namespace Vf
open PySem L2 PyProof.Rows PySem.Calls
def tMethV (C : Addr) (m : Str) (sp : Sp) (E : L2.St → XK) (ta : TE) (t : TA) : TE := fun σ H Q => ta σ H fun x H1 => ∃ a dx fs, x = .ref a ∧ H1 a = some (.ins C dx fs) ∧ fs.lookup m = none ∧ t σ H1 fun vs H2 => sp (x :: vs) H2 Q (E σ)
section
variable {X : Cx} {CX : CXT} {k : Nat} {f C : Addr} {fd : FuncData} {ps : List Str} {sp : Sp} {E : L2.St → XK} {x m : Str} {p pos apos : Pos} {e o : Expr} {es : List Expr} {ta : TE} {t : TA}
theorem pe_methV {pl : Sem Bool} (he : PE X o ta) (c : Cls X.K C) (hm : Meth X.K C m f) (F : FnOk X.prog X.w X.K X.mg X.base CX k f fd ps sp) (hr : Room k X.A) (hb : L2.Binds X.K fd ps []) (hx : ∀ σ, PassesAt CX X σ (E σ)) (ha : PA X (e :: es) t)
    (hst : starEach (e :: es) X.env = (false, eval e X.env) :: starEach es X.env := by rfl) (hpl : (backTo pos (starEach es X.env)).any (·.1) = false := by rfl)
    (ht : eval (.Call (.Attribute o m apos) (e :: es) [] pos) X.env = (do
      let ov ← eval o X.env
      standAt apos.atName
      let (f, first) ← holding [ov] (getMethod ov m pl)
      callWith pos f first (backTo pos (starEach (e :: es) X.env)) (backToKw pos (keywordEach [] X.env))) := by rfl) :
    PE X (.Call (.Attribute o m apos) (e :: es) [] pos) (tMethV C m sp E ta t) := by
  refine ⟨fun pins s σ H Q I h => ?_⟩
  refine PySem.W.methodCall_KW (pl := pl) (thn (he.run pins s σ H _ I h) fun u s1 ⟨x, H1, I1, rx, a, dx, fs, ex, ea, l, q⟩ => ?_) ht
  subst ex
  obtain rfl : u = Value.ref a := rx
  refine getmeth_ok I1 ea c hm l ?_
  refine PySem.W.callWith_K (first := [.ref a]) (h₀ := X.base) I.ok.mod.kin hm.kp (thn (ha.run pos pins s1 σ H1 _ I1 q) fun us s2 ⟨vs, H2, I2, r, q2⟩ => ⟨I2.kIn, ?_⟩) hst hpl
  exact run_fnS (us := .ref a :: us) (vs := .ref a :: vs) F hr hb (hx σ) I2 (.cons rfl r) q2
end
/-- what the top says of the plain base at B, asked for __init__ -/
structure BaseT (K : PySem.W.Frag) (mg : Str → Option Value) (x : Str) (B : Addr) : Prop where
  g : mg x = some (.ref B)
  s : PySem.W.specialIn K (.ref B) "__getattribute__" = some (some (.builtin "type.__getattribute__"))
  r : PySem.W.readsIn K B (.type "type") = true
  v : PySem.W.findCls K (.ref B) (.type "type") "__init__" = some (.val (.builtin "ValueError.__init__"))
section
variable {X : Cx} {e : Expr} {es : List Expr} {ta : TA} {x : Str} {p1 p2 pos : Pos} {B : Addr}
theorem pe_clsinit {pl : Sem Bool} (T : BaseT X.K X.mg x B) (hg : Gl X x) (ha : PA X (e :: es) ta) (hdb : (x == ("__debug__" : Str)) = false := by decide)
    (hc : eval (.Call (.Attribute (.Name x p1) "__init__" p2) (e :: es) [] pos) X.env = (do
      let ov ← eval (.Name x p1) X.env
      standAt p2.atName
      let (f, first) ← holding [ov] (getMethod ov "__init__" pl)
      callWith pos f first (backTo pos (starEach (e :: es) X.env)) (backToKw pos (keywordEach [] X.env))) := by rfl)
    (he : starEach (e :: es) X.env = (false, eval e X.env) :: starEach es X.env := by rfl) (hpl : (backTo pos (starEach es X.env)).any (·.1) = false := by rfl) :
    PE X (.Call (.Attribute (.Name x p1) "__init__" p2) (e :: es) [] pos) (tVeI X.K ta) := by
  refine ⟨fun pins s σ H Q I h => ?_⟩
  refine PySem.W.methodCall_KW (ld_glob I hg T.g ?_ hdb) hc
  refine PySem.W.method_cls I.kIn T.s (PySem.W.cls_value (mc := .type "type") I.kIn T.r T.v (by decide +kernel) ?_)
  show wpAny _ _ (callWith pos (Value.builtin "ValueError.__init__") [] (backTo pos (starEach (e :: es) X.env)) []) _ _ _
  refine PyProof.Rows.callWith_method1 (thn (ha.run pos pins _ σ H _ (I.tok _) h) fun us s1 ⟨vs, H1, I1, r1, a, C, ws, ev, hl, T, ea, q⟩ => ?_) he hpl
  subst ev
  cases r1 with
  | @cons _ u0 _ ur ra rw' =>
    obtain rfl : u0 = Value.ref a := ra
    have hlen : ur.length ≤ sizeLine := by
      rw [← Paired.length rw', sizeLine_eq]
      omega
    exact oinit_ok T I1 ea hlen fun s' J => ⟨.non, H1, J, rfl, q⟩
end
/-- what the top says of an own error at C over the base, with the __init__ at fI that keeps one field -/
structure ErrT (K : PySem.W.Frag) (mg : Str → Option Value) (x f : Str) (C fI : Addr) : Prop where
  oex : OexC K C
  g : mg x = some (.ref C)
  iC : PySem.W.findIn K (.ref C) "__init__" = some (some (.ref fI))
  tI : PySem.W.typeIn K (.ref fI) = some (.type "function")
  nf : PySem.W.findIn K (.ref C) f = some none
  xf : XfC K C
/-- the promise of such an __init__ -/
def spErr (C : Addr) (f : Str) : Sp := fun vs H Q _ => ∃ (a : Addr) (v : V), vs = [.ref a, v] ∧ H a = some (exo a C none) ∧ ∀ d, H d = none → d ≠ a → Q .non (L2.upd (L2.upd H d (exd d [(f, v)])) a (exo a C (some d)))
/-- what raise X(v) leaves -/
def Raised (H H' : Hp) (d : Addr) (f : Str) (v : V) : Prop := H d = none ∧ H' d = some (.xd [(f, v)]) ∧ Same H H'
theorem raised_of {H : Hp} {a d C : Addr} {f : Str} {v : V} (ha : H a = none) (hd : H d = none) (hda : d ≠ a) :
    Raised H (L2.upd (L2.del (L2.upd (L2.upd (L2.upd H a (exo a C none)) d (exd d [(f, v)])) a (exo a C (some d))) a) d (.xd [(f, v)])) d f v := by
  refine ⟨hd, upd_same, fun b o e => ?_⟩
  have h1 : b ≠ a := ne_of_none e ha
  have h2 : b ≠ d := ne_of_none e hd
  rw [upd_ne h2, del_ne h1, upd_ne h1, upd_ne h2, upd_ne h1]
  exact e
theorem idx_lt' {z : List Nat} {c : Nat} (h : c ∈ z) : z.idxOf c < z.length := List.idxOf_lt_length_iff.mpr h
theorem at_sg {z : Str} {c i : Nat} : StrLaws.At z (sg c) z.length i ↔ (TL.tl z)[i]? = some c := by
  rw [TL.at_iff (by rw [sg_tl]; simp) i, sg_tl]
  rw [← List.head?_drop]
  cases h : (TL.tl z).drop i with
  | nil => exact ⟨fun h => absurd h (by show ¬ (([] : List Nat) == [c]) = true; exact Bool.false_ne_true), fun h => absurd h (by simp)⟩
  | cons a r =>
    constructor
    · intro h
      have h2 : [a] = [c] := eq_of_beq h
      exact congrArg some (List.cons.inj h2).1
    · intro h
      have h2 : a = c := Option.some.inj h
      subst h2
      exact beq_self_eq_true [a]
theorem occ_sg {z : Str} {c : Nat} (h : c ∈ TL.tl z) : ∃ r, Builtin.Str.occurrences z (sg c) 0 z.length 1 = (TL.tl z).idxOf c :: r := by
  have hlt := idx_lt' h
  have hget : (TL.tl z)[(TL.tl z).idxOf c]? = some c := by
    rw [List.getElem?_eq_getElem hlt]
    simp
  rcases StrLaws.occ_head z (sg c) 1 (Nat.le_refl 1) with ⟨h0, hn⟩ | ⟨i, r, h0, hi, hn⟩
  · exact absurd (at_sg.mpr hget) (hn _)
  · rw [at_sg] at hi
    have e : i = (TL.tl z).idxOf c := by
      rcases Nat.lt_trichotomy i ((TL.tl z).idxOf c) with q | q | q
      · exfalso
        have := List.not_of_lt_findIdx (p := (· == c)) (xs := TL.tl z) q
        obtain ⟨hl, he⟩ := List.getElem?_eq_some_iff.mp hi
        simp [he] at this
      · exact q
      · exact absurd (at_sg.mpr hget) (hn _ q)
    exact ⟨r, by rw [h0, e]⟩
theorem find_sg {z : Str} {c : Nat} (h : c ∈ TL.tl z) : Txt.find z (sg c) = ((TL.tl z).idxOf c : Int) := by
  obtain ⟨r, e⟩ := occ_sg h
  unfold Txt.find
  rw [e]
end Vf
set_option Elab.async false
set_option linter.all false
set_option maxRecDepth 100000
set_option maxHeartbeats 4000000
/-! functions as values: made in one def, handed to another, called there -/
namespace Vf
open PySem L2 PyProof.Rows NdefX LamX
/-- the cell at c, told to the last bit -/
def CellX (c : Addr) (o : Obj) : HO := .ext fun h => h.get? c = some o
abbrev Cs := List (Addr × Obj)
def hid (cs : Cs) (H : Hp) : Hp := fun b => if (cs.lookup b).isSome then none else H b
def shw (cs : Cs) (H : Hp) : Hp := fun b => match cs.lookup b with | some o => some (CellX b o) | none => H b
def HeldC (cs : Cs) (H : Hp) : Prop := ∀ c o, cs.lookup c = some o → H c = some (CellX c o)
section
variable {cs : Cs} {H H' : Hp} {b c : Addr} {o : Obj} {u : HO}
theorem hid_in (h : cs.lookup c = some o) : hid cs H c = none := by unfold hid; rw [h]; rfl
theorem hid_out (h : cs.lookup c = none) : hid cs H c = H c := by unfold hid; rw [h]; rfl
theorem shw_in (h : cs.lookup c = some o) : shw cs H c = some (CellX c o) := by unfold shw; rw [h]
theorem shw_out (h : cs.lookup c = none) : shw cs H c = H c := by unfold shw; rw [h]
theorem hid_some (e : hid cs H b = some u) : cs.lookup b = none ∧ H b = some u := by
  cases q : cs.lookup b with
  | some x => rw [hid_in q] at e; cases e
  | none => rw [hid_out q] at e; exact ⟨rfl, e⟩
theorem HeldC.out (hc : HeldC cs H) (e : H b = some u) (n : ∀ x, u ≠ CellX b x) : cs.lookup b = none := by
  cases q : cs.lookup b with
  | some x => rw [hc b x q] at e; exact absurd (Option.some.inj e).symm (n x)
  | none => rfl
theorem HeldC.out0 (hc : HeldC cs H) (e : H b = none) : cs.lookup b = none := by
  cases q : cs.lookup b with
  | some x => rw [hc b x q] at e; cases e
  | none => rfl
theorem held_shw : HeldC cs (shw cs H) := fun _ _ e => shw_in e
end
section
variable {P : Program} {w : World} {cs : Cs} {H H' : Hp} {h h' B : Heap} {fs : List Addr}
theorem hok_hid (ok : HOk P w H h) (hc : HeldC cs H) : HOk P w (hid cs H) h := fun b u e => by
  obtain ⟨q, e1⟩ := hid_some e
  refine (ok b u e1).stay (fun _ _ _ z => z) (fun x z => ?_) fun x xs z => ?_
  · rw [hid_out (hc.out z fun y hy => by cases hy)]; exact z
  · rw [hid_out (hc.out z fun y hy => by cases hy)]; exact z
theorem hok_shw (ok : HOk P w H h) (hn : ∀ c o, cs.lookup c = some o → H c = none ∧ h.get? c = some o) : HOk P w (shw cs H) h := fun b u e => by
  have out : ∀ x v, H x = some v → shw cs H x = some v := fun x v z => by
    cases q : cs.lookup x with
    | some y => rw [(hn x y q).1] at z; cases z
    | none => rw [shw_out q]; exact z
  cases q : cs.lookup b with
  | some y =>
    rw [shw_in q] at e
    cases e
    have hb := (hn b y q).2
    exact ⟨hb, ⟨_, hb⟩, fun h1 h2 a st => st _ a⟩
  | none =>
    rw [shw_out q] at e
    exact (ok b u e).stay (fun _ _ _ z => z) (fun x z => out _ _ z) fun x xs z => out _ _ z
theorem cell_at (ok : HOk P w H h) (hc : HeldC cs H) {c : Addr} {o : Obj} (e : cs.lookup c = some o) : h.get? c = some o := (ok c _ (hc c o e)).1
/-- behind a call made with the cells hidden -/
theorem un_shw (ok : HOk P w H h) (hc : HeldC cs H) (hf : ∀ c o, cs.lookup c = some o → c ∉ fs) (u : Un fs [] (hid cs H) H' h h') (ok' : HOk P w H' h') :
    Un fs [] H (shw cs H') h h' ∧ HOk P w (shw cs H') h' ∧ ∀ c o, cs.lookup c = some o → H' c = none := by
  have cell : ∀ c o, cs.lookup c = some o → H' c = none ∧ h'.get? c = some o := fun c o e =>
    ⟨u.free c o (cell_at ok hc e) (hid_in e) (by simp), u.keep c o (cell_at ok hc e) (hid_in e) (hf c o e) (by simp)⟩
  refine ⟨⟨fun b o e n hb hx => ?_, fun b o e n hb hx => ?_, fun b o e n hx => ?_, u.there, fun b xs e => ?_, fun b o v e => ?_, fun b ps e => ?_⟩, hok_shw ok' cell, fun c o e => (cell c o e).1⟩
  · exact u.keep b o e (by rw [hid_out (hc.out0 n)]; exact n) hb hx
  · exact u.slot b o e (by rw [hid_out (hc.out0 n)]; exact n) hb hx
  · rw [shw_out (hc.out0 n)]
    exact u.free b o e (by rw [hid_out (hc.out0 n)]; exact n) hx
  · have q := hc.out e fun y hy => by cases hy
    rw [shw_out q]; exact u.tups b xs (by rw [hid_out q]; exact e)
  · have q := hc.out e fun y hy => by cases hy
    rw [shw_out q]; exact u.frzs b o v (by rw [hid_out q]; exact e)
  · have q := hc.out e fun y hy => by cases hy
    rw [shw_out q]; exact u.tbls b ps (by rw [hid_out q]; exact e)
theorem ub_shw (ok : HOk P w H h) (hc : HeldC cs H) (hf : ∀ c o, cs.lookup c = some o → c ∉ fs) (u : UB fs (hid cs H) H' h B h') (ok' : HOk P w H' B) :
    UB fs H (shw cs H') h B h' ∧ HOk P w (shw cs H') B ∧ ∀ c o, cs.lookup c = some o → H' c = none ∧ B.get? c = some o := by
  have cell : ∀ c o, cs.lookup c = some o → H' c = none ∧ B.get? c = some o := fun c o e =>
    ⟨u.free c o (cell_at ok hc e) (hid_in e), u.keep c o (cell_at ok hc e) (hid_in e) (hf c o e)⟩
  refine ⟨⟨fun b o e n hb => ?_, u.slot, fun b o e n => ?_, u.there, fun b xs e => ?_, fun b o v e => ?_, fun b ps e => ?_⟩, hok_shw ok' cell, cell⟩
  · exact u.keep b o e (by rw [hid_out (hc.out0 n)]; exact n) hb
  · rw [shw_out (hc.out0 n)]
    exact u.free b o e (by rw [hid_out (hc.out0 n)]; exact n)
  · have q := hc.out e fun y hy => by cases hy
    rw [shw_out q]; exact u.tups b xs (by rw [hid_out q]; exact e)
  · have q := hc.out e fun y hy => by cases hy
    rw [shw_out q]; exact u.frzs b o v (by rw [hid_out q]; exact e)
  · have q := hc.out e fun y hy => by cases hy
    rw [shw_out q]; exact u.tbls b ps (by rw [hid_out q]; exact e)
/-- behind a call made with the cells shown -/
theorem un_hid (hn : ∀ c o, cs.lookup c = some o → H c = none ∧ h.get? c = some o ∧ c ∉ fs) (u : Un fs [] (shw cs H) H' h h') (ok' : HOk P w H' h') (hc : HeldC cs H') :
    Un fs [] H (hid cs H') h h' ∧ HOk P w (hid cs H') h' := by
  have out : ∀ b v, H b = some v → cs.lookup b = none := fun b v e => by
    cases q : cs.lookup b with
    | some y => rw [(hn b y q).1] at e; cases e
    | none => rfl
  refine ⟨⟨fun b o e n hb hx => ?_, fun b o e n hb hx => ?_, fun b o e n hx => ?_, u.there, fun b xs e => ?_, fun b o v e => ?_, fun b ps e => ?_⟩, hok_hid ok' hc⟩
  · cases q : cs.lookup b with
    | some y =>
      have e1 := (hn b y q).2.1
      rw [e] at e1; cases e1
      exact cell_at ok' hc q
    | none => exact u.keep b o e (by rw [shw_out q]; exact n) hb hx
  · cases q : cs.lookup b with
    | some y => exact absurd hb (hn b y q).2.2
    | none => exact u.slot b o e (by rw [shw_out q]; exact n) hb hx
  · cases q : cs.lookup b with
    | some y => exact hid_in q
    | none =>
      rw [hid_out q]
      exact u.free b o e (by rw [shw_out q]; exact n) hx
  · have q := out _ _ e
    rw [hid_out q]; exact u.tups b xs (by rw [shw_out q]; exact e)
  · have q := out _ _ e
    rw [hid_out q]; exact u.frzs b o v (by rw [shw_out q]; exact e)
  · have q := out _ _ e
    rw [hid_out q]; exact u.tbls b ps (by rw [shw_out q]; exact e)
theorem ub_hid (hn : ∀ c o, cs.lookup c = some o → H c = none ∧ h.get? c = some o ∧ c ∉ fs) (u : UB fs (shw cs H) H' h B h') (ok' : HOk P w H' B) (hc : HeldC cs H') :
    UB fs H (hid cs H') h B h' ∧ HOk P w (hid cs H') B := by
  have out : ∀ b v, H b = some v → cs.lookup b = none := fun b v e => by
    cases q : cs.lookup b with
    | some y => rw [(hn b y q).1] at e; cases e
    | none => rfl
  refine ⟨⟨fun b o e n hb => ?_, u.slot, fun b o e n => ?_, u.there, fun b xs e => ?_, fun b o v e => ?_, fun b ps e => ?_⟩, hok_hid ok' hc⟩
  · cases q : cs.lookup b with
    | some y =>
      have e1 := (hn b y q).2.1
      rw [e] at e1; cases e1
      exact cell_at ok' hc q
    | none => exact u.keep b o e (by rw [shw_out q]; exact n) hb
  · cases q : cs.lookup b with
    | some y => exact hid_in q
    | none =>
      rw [hid_out q]
      exact u.free b o e (by rw [shw_out q]; exact n)
  · have q := out _ _ e
    rw [hid_out q]; exact u.tups b xs (by rw [shw_out q]; exact e)
  · have q := out _ _ e
    rw [hid_out q]; exact u.frzs b o v (by rw [shw_out q]; exact e)
  · have q := out _ _ e
    rw [hid_out q]; exact u.tbls b ps (by rw [shw_out q]; exact e)
end
/-! what is raised -/
structure CxOk (P : Program) (w : World) (CX : CXT) : Prop where
  shw : ∀ (outer : List Env) (cs : Cs) (H : Hp) (s : Shared) (E : XK) (u : Value) (s' : Shared), HOk P w H s.heap → HeldC cs H → (∀ c o, cs.lookup c = some o → c ∉ frs outer) →
    CX outer (hid cs H) s (fun cl d H2 => (∀ c o, cs.lookup c = some o → H2 c = none) → E cl d (Vf.shw cs H2)) u s' → CX outer H s E u s'
  hid : ∀ (outer : List Env) (cs : Cs) (H : Hp) (s : Shared) (E : XK) (u : Value) (s' : Shared), (∀ c o, cs.lookup c = some o → H c = none ∧ s.heap.get? c = some o ∧ c ∉ frs outer) →
    CX outer (Vf.shw cs H) s (fun cl d H2 => HeldC cs H2 ∧ E cl d (Vf.hid cs H2)) u s' → CX outer H s E u s'
theorem cxok0 {P : Program} {w : World} : CxOk P w CX0 := ⟨fun _ _ _ _ _ _ _ _ _ _ z => z.elim, fun _ _ _ _ _ _ _ _ z => z.elim⟩
theorem cxok {P : Program} {w : World} : CxOk P w (L2.CX P w) := by
  refine ⟨fun outer cs H s E u s' ok hc hf z => ?_, fun outer cs H s E u s' hn z => ?_⟩
  · obtain ⟨a, B, H', cls, d, e, fl, ok', ub, na, os, ag, hE⟩ := z
    obtain ⟨u1, k1, hB⟩ := ub_shw ok hc hf ub ok'
    refine ⟨a, B, _, cls, d, e, fl, k1, u1, ?_, os, ag, hE fun c o e => (hB c o e).1⟩
    cases q : cs.lookup a with
    | some y =>
      have z2 := fl.2.1
      rw [(hB a y q).2] at z2; cases z2
    | none => rw [shw_out q]; exact na
  · obtain ⟨a, B, H', cls, d, e, fl, ok', ub, na, os, ag, hc, hE⟩ := z
    obtain ⟨u1, k1⟩ := ub_hid hn ub ok' hc
    refine ⟨a, B, _, cls, d, e, fl, k1, u1, ?_, os, ag, hE⟩
    cases q : cs.lookup a with
    | some y => exact hid_in q
    | none => rw [hid_out q]; exact na
/-! a function by its address: whenever S holds of the heap, a call of it keeps the promise -/
structure FV (P : Program) (w : World) (K : PySem.W.Frag) (mg : Str → Option Value) (base : Heap) (CX : CXT) (k : Nat) (f : Addr) (S : Hp → Prop) (sp : Sp) : Prop where
  fn : ∀ H h, K.In h → HOk P w H h → S H → PySem.W.FnAt f h
  run : ∀ (A : Around) (outer : List Env) (s : Shared) (H : Hp) (us : List Value) (vs : List V) (Q : VK) (E : XK), Room k A → Env0 P w K mg base A outer s H → S H → Vals vs us → sp vs H Q E →
    codeAny (model P w) A (.call (.ref f) ⟨us, []⟩) (CR CX outer P w H s Q E) s
section
variable {P : Program} {w : World} {K : PySem.W.Frag} {mg : Str → Option Value} {base : Heap} {CX : CXT} {k j : Nat} {f : Addr} {S S' : Hp → Prop} {sp sp' : Sp}
theorem FV.mono (F : FV P w K mg base CX j f S sp) (h : j ≤ k) : FV P w K mg base CX k f S sp := ⟨F.fn, fun A outer s H us vs Q E hr => F.run A outer s H us vs Q E (hr.mono h)⟩
theorem FV.imp (F : FV P w K mg base CX k f S sp) (hS : ∀ H, S' H → S H) (h : ∀ vs H Q E, S' H → sp' vs H Q E → sp vs H Q E) : FV P w K mg base CX k f S' sp' :=
  ⟨fun H h ki ok q => F.fn H h ki ok (hS H q), fun A outer s H us vs Q E hr e q r z => F.run A outer s H us vs Q E hr e (hS H q) r (h vs H Q E q z)⟩
/-- a def of the module's top as a value -/
theorem fv_of_fun {x qual : Str} {stt : Stmt} {fd : FuncData} {ps : List Str} (Fu : Fun K x qual stt f fd) (F : FnOk P w K mg base CX k f fd ps sp) (hb : Binds K fd ps []) : FV P w K mg base CX k f (fun _ => True) sp :=
  ⟨fun H h ki ok q => by
    obtain ⟨oc, od, kV, doc, pm, an, cdv, ct, osl, rfl, lk, hcd⟩ := Fu.ex
    exact ⟨_, _, _, _, ki _ _ lk⟩, fun A outer s H us vs Q E hr e q r z => by
    have l : us.length = ps.length := by rw [← r.length]; exact F.len _ _ _ _ z
    have b := hb s us (e.mod.kin.keeps fun b o eb => (e.bs b o eb).1) (by rw [List.append_nil]; exact l)
    rw [List.append_nil] at b
    exact F.run A outer s H _ us vs Q E hr e b r z⟩
end
/-- the captured cells: cs tells them -/
structure Cap (cl : List (Str × Addr)) (fr : List Str) (ws : List (Option V)) (cs : Cs) : Prop where
  len : ws.length = fr.length
  cell : ∀ c o, cs.lookup c = some o → ∃ v, o.data = .cell v
  all : ∀ y c, cl.lookup y = some c → ∃ o, cs.lookup c = some o
  inj : ∀ x y c, cl.lookup x = some c → cl.lookup y = some c → x = y
  has : ∀ (i : Nat) (y : Str), fr[i]? = some y → ∃ c, cl.lookup y = some c ∧ ∀ v, ws[i]? = some (some v) → ∃ u o, RelV v u ∧ cs.lookup c = some o ∧ o.data = .cell (some u)
/-- the function and its cells stand -/
structure HeldF (f : Addr) (F : NF) (cs : Cs) (H : Hp) : Prop where
  fn : H f = some (FnO f F)
  code : H F.c = some (CodeO F.c F.qual)
  cells : HeldC cs H
def spHid (cs : Cs) (sp : Sp) : Sp := fun vs H Q E => sp vs (hid cs H) (fun v H2 => (∀ c o, cs.lookup c = some o → H2 c = none) → Q v (shw cs H2)) (fun cl d H2 => (∀ c o, cs.lookup c = some o → H2 c = none) → E cl d (shw cs H2))
section
variable {P : Program} {w : World} {K : PySem.W.Frag} {mg : Str → Option Value} {base : Heap} {CX : CXT} {k : Nat} {f : Addr} {F : NF} {ps fr : List Str} {ws : List (Option V)} {cs : Cs} {sp : List (Option V) → Sp}
theorem fv_of_nok (hX : CxOk P w CX) (o : NOk P w K mg base CX k f F ps fr sp) (c : Cap F.cl fr ws cs) : FV P w K mg base CX k f (HeldF f F cs) (spHid cs (sp ws)) := by
  refine ⟨fun H h ki ok q => ?_, fun A outer s H us vs Q E hr e q r z => ?_⟩
  · obtain ⟨od, sl, doc, pm, ctv, ho⟩ := fnO_at ok q.fn
    exact ⟨_, od, _, sl, ho⟩
  · have nfs : ∀ c o, cs.lookup c = some o → c ∉ frs outer := fun c o e1 hm => by
      have := e.frf c hm
      rw [q.cells c o e1] at this; cases this
    have okh := hok_hid e.hok q.cells
    have e2 : Env0 P w K mg base A outer s (hid cs H) := ⟨e.frames, e.mod, fun b o eb => ⟨(e.bs b o eb).1, by
        cases q2 : cs.lookup b with
        | some y => exact hid_in q2
        | none => rw [hid_out q2]; exact (e.bs b o eb).2⟩, e.bsz, e.funs, fun b hb => by
        cases q2 : cs.lookup b with
        | some y => exact hid_in q2
        | none => rw [hid_out q2]; exact e.frf b hb, okh, e.bare⟩
    have of : cs.lookup f = none := by
      cases q2 : cs.lookup f with
      | none => rfl
      | some y =>
        obtain ⟨od, sl, doc, pm, ctv, ho⟩ := fnO_at e.hok q.fn
        have h1 := cell_at e.hok q.cells q2
        obtain ⟨v, hv⟩ := c.cell f y q2
        rw [ho] at h1; cases h1; cases hv
    have oc : cs.lookup F.c = none := by
      cases q2 : cs.lookup F.c with
      | none => rfl
      | some y =>
        obtain ⟨⟨o1, v1, t1, h1, h2, h3⟩, _, _⟩ := e.hok _ _ q.code
        have h4 := cell_at e.hok q.cells q2
        obtain ⟨v, hv⟩ := c.cell _ y q2
        rw [h1] at h4; cases h4
        rw [h2] at hv; cases hv
    have C : CellsAt F.cl fr ws s.heap (hid cs H) := ⟨c.len, fun y a ea => by
        obtain ⟨o, ho⟩ := c.all y a ea
        obtain ⟨v, hv⟩ := c.cell a o ho
        exact ⟨hid_in ho, v, o, cell_at e.hok q.cells ho, hv⟩, c.inj, fun i y ey => by
        obtain ⟨a, ha, hv⟩ := c.has i y ey
        exact ⟨a, ha, fun v ev => by
          obtain ⟨u, o, h1, h2, h3⟩ := hv v ev
          exact ⟨u, h1, o, cell_at e.hok q.cells h2, h3⟩⟩⟩
    refine codeAny_mono (o.run A outer s (hid cs H) us vs ws _ _ hr e2 (by rw [hid_out of]; exact q.fn) (by rw [hid_out oc]; exact q.code) C r z) fun rr s' hq => ?_
    cases rr with
    | error er => exact hX.shw outer cs H s E er s' e.hok q.cells nfs hq
    | ok fl =>
      cases fl with
      | next => exact hq
      | brk => exact hq
      | cont => exact hq
      | ret u =>
        obtain ⟨v, H', os, bare, un, ok', rv, q2⟩ := hq
        obtain ⟨u1, k1, k2⟩ := un_shw e.hok q.cells nfs un ok'
        exact ⟨v, _, os, bare, u1, k1, rv, q2 k2⟩
end
/-! calls of a name that holds a function -/
def tCallV (i : Nat) (f : Addr) (S : Hp → Prop) (sp : Sp) (E : XK) (t : TA) : TE := fun σ H Q => σ[i]? = some (some (.ref f)) ∧ S H ∧ t σ H fun vs H1 => S H1 ∧ sp vs H1 Q E
section
variable {X : Cx} {CX : CXT} {i k : Nat} {f : Addr} {S : Hp → Prop} {sp : Sp} {E : XK} {x : Str} {p pos : Pos} {e : Expr} {es : List Expr} {t : TA}
theorem run_v {pins : List (Addr × Obj)} {σ : L2.St} {H : Hp} {s : Shared} {Q : VK} {us : List Value} {vs : List V} (F : FV X.prog X.w X.K X.mg X.base CX k f S sp) (hr : Room k X.A) (hx : Passes CX X E) (I : Inv X pins σ H s) (hS : S H) (r : Vals vs us) (q : sp vs H Q E) :
    wpAny (model X.prog X.w) X.A (call (.ref f) us) (EP X pins σ Q) X.xe s := by
  refine wpAny_call (codeAny_mono (F.run X.A X.stack s H us vs Q E hr I.env0 hS r q) fun rr s' hq => ?_)
  rcases rr with er | fl
  · exact hx pins σ H s er s' I hq
  · cases fl with
    | ret u => exact I.after hq
    | next => exact hq.elim
    | brk => exact hq.elim
    | cont => exact hq.elim
theorem pe_callV (F : FV X.prog X.w X.K X.mg X.base CX k f S sp) (hr : Room k X.A) (hx : Passes CX X E) (hN : X.N[i]? = some x) (hv : Vis X.env.scope x) (ha : PA X (e :: es) t)
    (hd : (x == ("__debug__" : Str)) = false := by decide) (hcd : (x == ("__classdict__" : Str)) = false := by decide)
    (he : starEach (e :: es) X.env = (false, eval e X.env) :: starEach es X.env := by rfl) (hpl : (backTo pos (starEach es X.env)).any (·.1) = false := by rfl) :
    PE X (.Call (.Name x p) (e :: es) [] pos) (tCallV i f S sp E t) := by
  refine ⟨fun pins s σ H Q I h => ?_⟩
  obtain ⟨hs, hS, ht⟩ := h
  refine wpAny_Call_Name_kw (thn ((pe_var (pos := p) hN hv hd hcd).run pins s σ H (fun v H1 => v = .ref f ∧ H1 = H) I ⟨.ref f, hs, rfl, rfl⟩) fun u s1 ⟨v, H1, I1, r1, q1⟩ => ?_)
  obtain ⟨ev, eH⟩ := q1
  subst ev
  rw [eH] at I1
  have r1' : u = Value.ref f := r1
  subst r1'
  refine PySem.W.callWith_F (first := []) (F.fn H s1.heap I1.kIn I1.hok hS) (thn (ha.run pos pins s1 σ H _ I1 ht) fun us s2 ⟨vs, H2, I2, r, h1, q⟩ => ⟨F.fn H2 s2.heap I2.kIn I2.hok h1, ?_⟩) he hpl
  exact run_v F hr hx I2 h1 r q
/-- the name in the slot i -/
theorem pcv (i : Nat) (F : FV X.prog X.w X.K X.mg X.base CX k f S sp) (hr : Room k X.A) (hx : Passes CX X E) (ha : PA X (e :: es) t) (hN : X.N[i]? = some x := by rfl) (hv : Vis X.env.scope x := by first | exact Or.inl rfl | exact Or.inr (Or.inl rfl) | exact Or.inr (Or.inr rfl))
    (hd : (x == ("__debug__" : Str)) = false := by decide) (hcd : (x == ("__classdict__" : Str)) = false := by decide)
    (he : starEach (e :: es) X.env = (false, eval e X.env) :: starEach es X.env := by rfl) (hpl : (backTo pos (starEach es X.env)).any (·.1) = false := by rfl) :
    PE X (.Call (.Name x p) (e :: es) [] pos) (tCallV i f S sp E t) := pe_callV F hr hx hN hv ha hd hcd he hpl
theorem pe_callV0 (F : FV X.prog X.w X.K X.mg X.base CX k f S sp) (hr : Room k X.A) (hx : Passes CX X E) (hN : X.N[i]? = some x) (hv : Vis X.env.scope x)
    (hd : (x == ("__debug__" : Str)) = false := by decide) (hcd : (x == ("__classdict__" : Str)) = false := by decide) : PE X (.Call (.Name x p) [] [] pos) (tCallV i f S sp E tNil) := by
  refine ⟨fun pins s σ H Q I h => ?_⟩
  obtain ⟨hs, hS, h1, q⟩ := h
  refine wpAny_Call_Name_kw (thn ((pe_var (pos := p) hN hv hd hcd).run pins s σ H (fun v H1 => v = .ref f ∧ H1 = H) I ⟨.ref f, hs, rfl, rfl⟩) fun u s1 ⟨v, H1, I1, r1, q1⟩ => ?_)
  obtain ⟨ev, eH⟩ := q1
  subst ev
  rw [eH] at I1
  have r1' : u = Value.ref f := r1
  subst r1'
  refine PySem.W.callWith_F0 (first := []) (F.fn H s1.heap I1.kIn I1.hok hS) ?_
  exact run_v F hr hx I1 h1 .nil q
end
/-! a call that hands functions of this frame on: its cells are shown meanwhile -/
structure CapX (X : Cx) (σ : L2.St) (cs : Cs) : Prop where
  ok : X.Ok
  dom : ∀ c o, cs.lookup c = some o → (∃ v, o.data = .cell v) ∧ ∃ y, X.env.cells.lookup y = some c
  all : ∀ y c, X.env.cells.lookup y = some c → ∃ o, cs.lookup c = some o
  val : ∀ (j : Nat) (y : Str) (v : V), X.N[j]? = some y → σ[j]? = some (some v) → X.env.scope.names.lookup y = some .cell → ∃ c u o, X.env.cells.lookup y = some c ∧ RelV v u ∧ cs.lookup c = some o ∧ o.data = .cell (some u)
def tCallC (X : Cx) (sp : Sp) (dvs : List V) (E : XK) (t : TA) : TE := fun σ H Q => t σ H fun vs H1 => ∀ cs : Cs, CapX X σ cs → (∀ c o, cs.lookup c = some o → H1 c = none) →
  sp (vs ++ dvs) (shw cs H1) (fun v H2 => HeldC cs H2 ∧ Q v (hid cs H2)) (fun cl d H2 => HeldC cs H2 ∧ E cl d (hid cs H2))
def capsOf (cells : List (Str × Addr)) (h : Heap) : Cs := cells.filterMap fun p => if cells.lookup p.1 = some p.2 then (h.get? p.2).map fun o => (p.2, o) else none
theorem lookup_mem {α : Type} : ∀ {l : List (Addr × α)} {c : Addr} {o : α}, l.lookup c = some o → (c, o) ∈ l
  | [], _, _, h => by cases h
  | (a, b) :: l, c, o, h => by
    rw [List.lookup_cons] at h
    cases q : c == a with
    | true =>
      rw [q] at h
      cases h
      rw [beq_iff_eq.mp q]
      exact List.mem_cons_self
    | false =>
      rw [q] at h
      exact List.mem_cons_of_mem _ (lookup_mem h)
theorem mem_lookup' {α : Type} : ∀ {l : List (Addr × α)} {c : Addr} {o : α}, (c, o) ∈ l → ∃ o', l.lookup c = some o'
  | (a, b) :: l, c, o, h => by
    rw [List.lookup_cons]
    cases q : c == a with
    | true => exact ⟨b, rfl⟩
    | false =>
      rcases List.mem_cons.mp h with e | e
      · cases e
        simp at q
      · exact mem_lookup' e
theorem capsOf_some {cells : List (Str × Addr)} {h : Heap} {c : Addr} {o : Obj} (e : (capsOf cells h).lookup c = some o) : h.get? c = some o ∧ ∃ y, cells.lookup y = some c := by
  have hm := lookup_mem e
  obtain ⟨⟨y, a⟩, _, h2⟩ := List.mem_filterMap.mp hm
  dsimp only at h2
  split at h2
  · rename_i hl
    cases q : h.get? a with
    | none => rw [q] at h2; cases h2
    | some o' =>
      rw [q] at h2
      have h3 : (a, o') = (c, o) := Option.some.inj h2
      cases h3
      exact ⟨q, y, hl⟩
  · cases h2
theorem mem_of_look {l : List (Str × Addr)} {y : Str} {c : Addr} (h : l.lookup y = some c) : (y, c) ∈ l := PySem.mem_of_lookup h
theorem capsOf_has {cells : List (Str × Addr)} {h : Heap} {y : Str} {c : Addr} {o : Obj} (e : cells.lookup y = some c) (ho : h.get? c = some o) : (capsOf cells h).lookup c = some o := by
  have hm : (c, o) ∈ capsOf cells h := List.mem_filterMap.mpr ⟨(y, c), mem_of_look e, by
    dsimp only
    rw [if_pos e, ho]
    rfl⟩
  obtain ⟨o', h'⟩ := mem_lookup' hm
  have := (capsOf_some h').1
  rw [ho] at this
  cases this
  exact h'
section
variable {X : Cx} {pins : List (Addr × Obj)} {σ : L2.St} {H : Hp} {s : Shared}
theorem capX_of (I : Inv X pins σ H s) : CapX X σ (capsOf X.env.cells s.heap) := by
  refine ⟨I.ok, fun c o e => ?_, fun y c e => ?_, fun j y v e1 e2 e3 => ?_⟩
  · obtain ⟨h1, y, h2⟩ := capsOf_some e
    obtain ⟨v, o', ho', hd⟩ := I.cell y c h2
    rw [h1] at ho'; cases ho'
    exact ⟨⟨v, hd⟩, y, h2⟩
  · obtain ⟨v, o', ho', hd⟩ := I.cell y c e
    exact ⟨o', capsOf_has e ho'⟩
  · obtain ⟨m, hn, hl⟩ := I.loc
    obtain ⟨u, r, l⟩ := hl j y v e1 e2 (.inr (.inl e3))
    rcases l with ⟨z, _⟩ | ⟨_, c, hc, o, ho, hd⟩
    · have z' : X.env.scope.names.lookup y = some .local := z
      rw [e3] at z'; cases z'
    · exact ⟨c, u, o, hc, r, capsOf_has hc ho, hd⟩
variable {CX : CXT} {k : Nat} {f : Addr} {fd : FuncData} {ps : List Str} {sp : Sp} {dvs : List V} {ds : List Value} {E : XK} {x : Str} {p pos : Pos} {e : Expr} {es : List Expr} {t : TA}
theorem caps_free (hfn : ∀ y, X.fn y = true) (I : Inv X pins σ H s) : ∀ c o, (capsOf X.env.cells s.heap).lookup c = some o → H c = none ∧ s.heap.get? c = some o ∧ c ∉ frs X.stack := fun c o e => by
  obtain ⟨h1, y, h2⟩ := capsOf_some e
  refine ⟨I.freeC y c h2, h1, fun hm => ?_⟩
  rcases List.mem_cons.mp (I.stkSub c hm) with z | z
  · exact I.cne y c h2 z
  · obtain ⟨_, o', ho', _⟩ := I.ok.funs.mem z
    exact absurd (Nat.lt_of_lt_of_le (Heap.lt_size ho') (I.ok.cab y c (hfn y) h2)) (Nat.lt_irrefl _)
theorem run_fnC {Q : VK} {us : List Value} {vs : List V} (hX : CxOk X.prog X.w CX) (F : FnOk X.prog X.w X.K X.mg X.base CX k f fd ps sp) (hr : Room k X.A) (hfn : ∀ y, X.fn y = true) (hb : Binds X.K fd ps ds) (hd : Vals dvs ds) (hx : Passes CX X E) (I : Inv X pins σ H s) (r : Vals vs us)
    (h : ∀ cs : Cs, CapX X σ cs → (∀ c o, cs.lookup c = some o → H c = none) → sp (vs ++ dvs) (shw cs H) (fun v H2 => HeldC cs H2 ∧ Q v (hid cs H2)) (fun cl d H2 => HeldC cs H2 ∧ E cl d (hid cs H2))) :
    wpAny (model X.prog X.w) X.A (call (.ref f) us) (EP X pins σ Q) X.xe s := by
  have hn := caps_free hfn I
  have hsp := h _ (capX_of I) fun c o e => (hn c o e).1
  have r2 : Vals (vs ++ dvs) (us ++ ds) := r.append hd
  have hl : (us ++ ds).length = ps.length := by rw [← r2.length]; exact F.len _ _ _ _ hsp
  have e0 := I.env0
  have notbase : ∀ b o, X.base.get? b = some o → (capsOf X.env.cells s.heap).lookup b = none := fun b o eb => by
    cases q : (capsOf X.env.cells s.heap).lookup b with
    | none => rfl
    | some y =>
      obtain ⟨_, y2, h2⟩ := capsOf_some q
      exact absurd (Nat.lt_of_lt_of_le (Nat.lt_of_lt_of_le (Heap.lt_size eb) I.ok.bsz) (I.ok.cab y2 b (hfn y2) h2)) (Nat.lt_irrefl _)
  have e1 : Env0 X.prog X.w X.K X.mg X.base X.A X.stack s (shw (capsOf X.env.cells s.heap) H) := ⟨e0.frames, e0.mod, fun b o eb => ⟨(e0.bs b o eb).1, by
      rw [shw_out (notbase b o eb)]; exact (e0.bs b o eb).2⟩, e0.bsz, e0.funs, fun b hb => by
      cases q : (capsOf X.env.cells s.heap).lookup b with
      | none => rw [shw_out q]; exact e0.frf b hb
      | some y => exact absurd hb (hn b y q).2.2, hok_shw e0.hok fun c o e => ⟨(hn c o e).1, (hn c o e).2.1⟩, e0.bare⟩
  refine wpAny_call (codeAny_mono (F.run X.A X.stack s _ ⟨us, []⟩ (us ++ ds) (vs ++ dvs) _ _ hr e1 (hb s us I.kIn hl) r2 hsp) fun rr s' hq => ?_)
  rcases rr with er | fl
  · exact hx pins σ H s er s' I (hX.hid _ _ H s E er s' hn hq)
  · cases fl with
    | ret u =>
      obtain ⟨v, H', os, bare, un, ok', rv, hc, q⟩ := hq
      obtain ⟨u1, k1⟩ := un_hid hn un ok' hc
      exact I.after ⟨v, _, os, bare, u1, k1, rv, q⟩
    | next => exact hq.elim
    | brk => exact hq.elim
    | cont => exact hq.elim
theorem pe_callC (hX : CxOk X.prog X.w CX) (F : FnOk X.prog X.w X.K X.mg X.base CX k f fd ps sp) (hr : Room k X.A) (hfn : ∀ y, X.fn y = true) (hg : Gl X x) (hm : X.mg x = some (.ref f)) (hk : PySem.W.keepIn X.K (.ref f) = true) (hb : Binds X.K fd ps ds) (hd : Vals dvs ds) (hx : Passes CX X E) (ha : PA X (e :: es) t)
    (hdb : (x == ("__debug__" : Str)) = false := by decide)
    (he : starEach (e :: es) X.env = (false, eval e X.env) :: starEach es X.env := by rfl) (hpl : (backTo pos (starEach es X.env)).any (·.1) = false := by rfl) : PE X (.Call (.Name x p) (e :: es) [] pos) (tCallC X sp dvs E t) := by
  refine ⟨fun pins s σ H Q I h => ?_⟩
  refine wpAny_Call_Name_kw (ld_glob I hg hm ?_ hdb)
  refine PySem.W.callWith_K (h₀ := X.base) I.ok.mod.kin hk (thn (ha.run pos pins s σ H _ I h) fun us s2 ⟨vs, H2, I2, r, q⟩ => ⟨I2.kIn, ?_⟩) he hpl
  exact run_fnC hX F hr hfn hb hd hx I2 r q
/-- the cells of a function made in this frame, as the frame's cells tell them -/
theorem cap_of {cs : Cs} {scope : Scope} {fr : List Str} {js : List Nat} (c : CapX X σ cs) (hfree : ∀ y ∈ scope.names, y.2 = .free → X.env.scope.names.lookup y.1 = some .cell) (hfr : ∀ y ∈ fr, (y, NameKind.free) ∈ scope.names) (hjs : js.map (fun j => X.N[j]?) = fr.map some) :
    Cap (cloFrom X.env.cells scope.names []) fr (js.map (slotAt σ)) cs := by
  have hf : ∀ y ∈ scope.names, y.2 = .free → ∃ a, X.env.cells.lookup y.1 = some a := fun y hy e => c.ok.has _ (.inl (hfree y hy e))
  have hlen := congrArg List.length hjs
  rw [List.length_map, List.length_map] at hlen
  refine ⟨by rw [List.length_map]; exact hlen, fun a o e => (c.dom a o e).1, fun y a e => c.all y a (clo_cm hf e), fun x y a e1 e2 => c.ok.inj x y a (clo_cm hf e1) (clo_cm hf e2), fun i y e => ?_⟩
  have hy := List.mem_of_getElem? e
  have hk := hfree (y, .free) (hfr y hy) rfl
  obtain ⟨a, ha⟩ := c.ok.has y (.inl hk)
  refine ⟨a, clo_has hf (hfr y hy) ha, fun v ev => ?_⟩
  have e2 : (js.map fun j => X.N[j]?)[i]? = some (some y) := by
    rw [hjs, List.getElem?_map, e]; rfl
  rw [List.getElem?_map] at e2 ev
  cases ej : js[i]? with
  | none => rw [ej] at e2; cases e2
  | some j =>
    rw [ej] at e2 ev
    have hj : X.N[j]? = some y := Option.some.inj (show some (X.N[j]?) = some (some y) from e2)
    have ev2 : σ[j]? = some (some v) := slotAt_some (Option.some.inj (show some (slotAt σ j) = some (some v) from ev))
    obtain ⟨a', u, o, h1, h2, h3, h4⟩ := c.val j y v hj ev2 hk
    rw [ha] at h1; cases h1
    exact ⟨u, o, h2, h3, h4⟩
end
/-! a def whose code object is told -/
structure FunC (K : PySem.W.Frag) (x qual : Str) (st : Stmt) (f : Addr) (fd : FuncData) (c : Addr) : Prop where
  ex : ∃ (oc : Value) (od : Option Addr) (kV doc pm : Value) (an : Option Addr) (ct : Value) (osl : Array (Option Value)),
    fd = PySem.W.fnOf x qual (defArgs st) (defBody st) (defScope st) .none kV doc pm an (.ref c) ct ∧ K.lookup f = some ⟨oc, od, .func fd, osl⟩ ∧ PySem.W.codeIn K (.ref c) qual = true
  kp : PySem.W.keepIn K (.ref f) = true
section
variable {P : Program} {w : World} {K : PySem.W.Frag} {mg : Str → Option Value} {base : Heap} {x qual : Str} {st : Stmt} {f c : Addr} {fd : FuncData} {N ps : List Str} {k : Nat} {sp : Sp}
theorem FunC.fun (F : FunC K x qual st f fd c) : Fun K x qual st f fd := by
  obtain ⟨oc, od, kV, doc, pm, an, ct, osl, e, l, h⟩ := F.ex
  exact ⟨⟨oc, od, kV, doc, pm, an, _, ct, osl, e, l, h⟩, F.kp⟩
theorem FunC.ok (F : FunC K x qual st f fd c) (S : FnScope N ps (defScope st)) (len : ∀ vs H Q E, sp vs H Q E → vs.length = ps.length)
    (hbody : ∀ (A : Around) (outer : List Env) (s : Shared) (H : Hp) (vs : List V) (Q : VK) (E : XK), Room k (A.deeper (envOfC qual (defScope st) s.heap.objs.size f (.ref c))) → sp vs H Q E →
      ∃ t, PSs (cxOf CX0 P w K mg base N qual (defScope st) f (.ref c) A outer s H E).nox (defBody st) t ∧ t { nx := fun _ H' => Q .non H', rt := Q } (start N vs) H) : FnOk P w K mg base CX0 (k + 1) f fd ps sp := by
  obtain ⟨oc, od, kV, doc, pm, an, ct, osl, rfl, lk, hcd⟩ := F.ex
  refine fn_of lk hcd S len fun A outer s H vs Q E hr hsp => ?_
  obtain ⟨t, h, q⟩ := hbody A outer s H vs Q E hr hsp
  exact ⟨t, h.nox, q⟩
theorem FunC.okX (F : FunC K x qual st f fd c) (S : FnScope N ps (defScope st)) (len : ∀ vs H Q E, sp vs H Q E → vs.length = ps.length)
    (hbody : ∀ (A : Around) (outer : List Env) (s : Shared) (H : Hp) (vs : List V) (Q : VK) (E : XK), Room k (A.deeper (envOfC qual (defScope st) s.heap.objs.size f (.ref c))) → sp vs H Q E →
      ∃ t, PSs (cxOf (L2.CX P w) P w K mg base N qual (defScope st) f (.ref c) A outer s H E) (defBody st) t ∧ t { nx := fun _ H' => Q .non H', rt := Q } (start N vs) H) : FnOk P w K mg base (L2.CX P w) (k + 1) f fd ps sp := by
  obtain ⟨oc, od, kV, doc, pm, an, ct, osl, rfl, lk, hcd⟩ := F.ex
  exact fn_of lk hcd S len fun A outer s H vs Q E hr hsp => hbody A outer s H vs Q E hr hsp
theorem funC_mk {oc : Value} {od an : Option Addr} {osl : Array (Option Value)} {kV doc pm ct : Value} (l : K.lookup f = some ⟨oc, od, .func (PySem.W.fnOf x qual (defArgs st) (defBody st) (defScope st) .none kV doc pm an (.ref c) ct), osl⟩)
    (cd : PySem.W.codeIn K (.ref c) qual = true) (k : PySem.W.keepIn K (.ref f) = true) : FunC K x qual st f (PySem.W.fnOf x qual (defArgs st) (defBody st) (defScope st) .none kV doc pm an (.ref c) ct) c := ⟨⟨oc, od, kV, doc, pm, an, ct, osl, rfl, l, cd⟩, k⟩
end
end Vf
set_option Elab.async false
set_option linter.all false
set_option maxRecDepth 100000
set_option maxHeartbeats 4000000
/-! lambdas as values -/
namespace Vf
open PySem L2 PyProof.Rows NdefX LamX
abbrev lamO (F : NF) (e : Expr) (pm ctv : Value) : Obj := PySem.W.kla_obj F.name F.qual F.params e F.scope F.cl pm F.c ctv
/-- the object at f is the lambda with this body -/
def FnL (f : Addr) (F : NF) (e : Expr) : HO := .ext fun h => ∃ (pm ctv : Value), h.get? f = some (lamO F e pm ctv)
theorem fnL_at {P : Program} {w : World} {H : Hp} {h : Heap} {f : Addr} {F : NF} {e : Expr} (ok : HOk P w H h) (q : H f = some (FnL f F e)) : ∃ (pm ctv : Value), h.get? f = some (lamO F e pm ctv) := (ok f _ q).1
structure LOk (P : Program) (w : World) (K : PySem.W.Frag) (mg : Str → Option Value) (base : Heap) (CX : CXT) (k : Nat) (f : Addr) (F : NF) (e : Expr) (ps fr : List Str) (sp : List (Option V) → Sp) : Prop where
  run : ∀ (A : Around) (outer : List Env) (s : Shared) (H : Hp) (us : List Value) (vs : List V) (ws : List (Option V)) (Q : VK) (E : XK), Room k A → Env0 P w K mg base A outer s H → H f = some (FnL f F e) → H F.c = some (CodeO F.c F.qual) →
    CellsAt F.cl fr ws s.heap H → Vals vs us → sp ws vs H Q E → codeAny (model P w) A (.call (.ref f) ⟨us, []⟩) (CR CX outer P w H s Q E) s
structure HeldL (f : Addr) (F : NF) (e : Expr) (cs : Cs) (H : Hp) : Prop where
  fn : H f = some (FnL f F e)
  code : H F.c = some (CodeO F.c F.qual)
  cells : HeldC cs H
section
variable {P : Program} {w : World} {K : PySem.W.Frag} {mg : Str → Option Value} {base : Heap} {CX : CXT} {k : Nat} {f : Addr} {F : NF} {e : Expr} {N ps fr : List Str} {ws : List (Option V)} {cs : Cs} {sp : List (Option V) → Sp}
theorem lok_of (S : NScope N ps fr F.scope) (hb : ∀ (pm ctv : Value) (us : List Value), us.length = ps.length → bindArgs (PySem.W.kla_fn F.name F.qual F.params e F.scope F.cl pm (.ref F.c) ctv) ⟨us, []⟩ = pure (ps.zip us)) (len : ∀ ws vs H Q E, sp ws vs H Q E → vs.length = ps.length)
    (hbody : ∀ (A : Around) (outer : List Env) (s : Shared) (H : Hp) (vs : List V) (ws : List (Option V)) (Q : VK) (E : XK), Room k (A.deeper (envF F f s.heap.objs.size)) → ws.length = fr.length → sp ws vs H Q E →
      ∃ t, PE (ncx CX P w K mg base N F f A outer s H E) e t ∧ t (startF N vs ws) H Q) :
    LOk P w K mg base CX (k + 1) f F e ps fr sp := by
  refine ⟨fun A outer s H us vs ws Q E hr e0 hf hc C r hsp => ?_⟩
  have hl := len _ _ _ _ _ hsp
  have lim : s.heap.NoLimit := e0.mod.nolimit.keeps fun b o eb => (e0.bs b o eb).1
  obtain ⟨pm, ctv, ho⟩ := fnL_at e0.hok hf
  obtain ⟨⟨oc, vc, tc, hoc, hdc, hvc⟩, _, _⟩ := e0.hok _ _ hc
  refine PySem.W.kla_callFunE hr.depth ho rfl S.co S.gen rfl ⟨F.c, oc, vc, tc, rfl, hoc, hdc, hvc⟩ ?_
  have hbu := hb pm ctv us (by rw [← r.length]; exact hl)
  rw [hbu]
  refine wpAny_pure (wpAny_newFunctionEnv S.nocell (fun ⟨n, _⟩ hy => S.par n (List.of_mem_zip hy).1) (fun h₁ hns hsb => ⟨lim.fresh _ hsb, ?_⟩) S.kind)
  show codeAny _ _ (.expr e (envF F f s.heap.objs.size)) _ _
  have keeps : ∀ b o, s.heap.get? b = some o → h₁.get? b = some o := fun b o eb => hsb.extBut b o (Nat.ne_of_lt (Heap.lt_size eb)) (Heap.get?_push_of_some _ eb)
  obtain ⟨t, ht, hq⟩ := hbody A outer s H vs ws Q E (hr.deeper _) C.len hsp
  have I := inv_startN (CX := CX) (P := P) (w := w) (K := K) (mg := mg) (base := base) (f := f) (A := A) (outer := outer) (E := E) (tk := s.toks + (ps.zip us).length) S hr.hd e0 hl r C hns keeps
  refine PySem.W.kla_codeExpr (wpAny_mono (ht.run [] _ (startF N vs ws) H Q I hq) (fun v s' hs => ?_) fun er s' hs => hs)
  obtain ⟨v2, H2, J, rv, q⟩ := hs
  exact ⟨v2, H2, J.os, J.bare, J.base, J.hok, rv, q⟩
theorem fv_of_lok (hX : CxOk P w CX) (o : LOk P w K mg base CX k f F e ps fr sp) (c : Cap F.cl fr ws cs) : FV P w K mg base CX k f (HeldL f F e cs) (spHid cs (sp ws)) := by
  refine ⟨fun H h ki ok q => ?_, fun A outer s H us vs Q E hr e0 q r z => ?_⟩
  · obtain ⟨pm, ctv, ho⟩ := fnL_at ok q.fn
    exact ⟨_, _, _, _, ho⟩
  · have nfs : ∀ c o, cs.lookup c = some o → c ∉ frs outer := fun c o e1 hm => by
      have := e0.frf c hm
      rw [q.cells c o e1] at this; cases this
    have okh := hok_hid e0.hok q.cells
    have e2 : Env0 P w K mg base A outer s (hid cs H) := ⟨e0.frames, e0.mod, fun b o eb => ⟨(e0.bs b o eb).1, by
        cases q2 : cs.lookup b with
        | some y => exact hid_in q2
        | none => rw [hid_out q2]; exact (e0.bs b o eb).2⟩, e0.bsz, e0.funs, fun b hb => by
        cases q2 : cs.lookup b with
        | some y => exact hid_in q2
        | none => rw [hid_out q2]; exact e0.frf b hb, okh, e0.bare⟩
    have of : cs.lookup f = none := by
      cases q2 : cs.lookup f with
      | none => rfl
      | some y =>
        obtain ⟨pm, ctv, ho⟩ := fnL_at e0.hok q.fn
        have h1 := cell_at e0.hok q.cells q2
        obtain ⟨v, hv⟩ := c.cell f y q2
        rw [ho] at h1; cases h1; cases hv
    have oc : cs.lookup F.c = none := by
      cases q2 : cs.lookup F.c with
      | none => rfl
      | some y =>
        obtain ⟨⟨o1, v1, t1, h1, h2, h3⟩, _, _⟩ := e0.hok _ _ q.code
        have h4 := cell_at e0.hok q.cells q2
        obtain ⟨v, hv⟩ := c.cell _ y q2
        rw [h1] at h4; cases h4
        rw [h2] at hv; cases hv
    have C : CellsAt F.cl fr ws s.heap (hid cs H) := ⟨c.len, fun y a ea => by
        obtain ⟨o, ho⟩ := c.all y a ea
        obtain ⟨v, hv⟩ := c.cell a o ho
        exact ⟨hid_in ho, v, o, cell_at e0.hok q.cells ho, hv⟩, c.inj, fun i y ey => by
        obtain ⟨a, ha, hv⟩ := c.has i y ey
        exact ⟨a, ha, fun v ev => by
          obtain ⟨u, o, h1, h2, h3⟩ := hv v ev
          exact ⟨u, h1, o, cell_at e0.hok q.cells h2, h3⟩⟩⟩
    refine codeAny_mono (o.run A outer s (hid cs H) us vs ws _ _ hr e2 (by rw [hid_out of]; exact q.fn) (by rw [hid_out oc]; exact q.code) C r z) fun rr s' hq => ?_
    rcases rr with er | fl
    · exact hX.shw outer cs H s E er s' e0.hok q.cells nfs hq
    · cases fl with
      | next => exact hq
      | brk => exact hq
      | cont => exact hq
      | ret u =>
        obtain ⟨v, H', os, bare, un, ok', rv, q2⟩ := hq
        obtain ⟨u1, k1, k2⟩ := un_shw e0.hok q.cells nfs un ok'
        exact ⟨v, _, os, bare, u1, k1, rv, q2 k2⟩
end
section
variable {X : Cx} {pins : List (Addr × Obj)} {σ : L2.St} {H : Hp} {s : Shared}
theorem inv_fnL {F : NF} {e : Expr} {o : Obj} {t' : Nat} {pm ctv : Value} (I : Inv X pins σ H s) (ho : o = lamO F e pm ctv) :
    Inv X pins σ (upd H s.heap.objs.size (FnL s.heap.objs.size F e)) { s with heap := s.heap.push o, toks := t' } := by
  subst ho
  refine I.laid (a := s.heap.objs.size) (fun b u eb => Heap.get?_push_of_some _ eb) (Nat.le_refl _) ?_
  have e1 : (s.heap.push (lamO F e pm ctv)).get? s.heap.objs.size = some (lamO F e pm ctv) := Heap.get?_push_size _ rfl
  exact ⟨⟨pm, ctv, e1⟩, ⟨_, e1⟩, fun h1 h2 ⟨p, t, z⟩ st => ⟨p, t, st _ z⟩⟩
/-- its code object is new, or stands in the table -/
theorem lam_made {T : List NTab} {nm : Nat → Nat → Str} {c P : Addr} {params : Arguments} {body : Expr} {scope : Scope} {pos : Pos} {E : Value → Shared → Prop} {Q : Value → Shared → Prop} (I : Inv X pins σ H s) (TB : TabB X.base X.mg c P) (hcode : X.env.code = .ref c)
    (hm : (P, nm) ∈ T) (hn : nm pos.line pos.col = X.env.qual ++ "<lambda>") (hu : ∀ p ∈ T, p.1 = P → p.2 = nm) (hT : TabsN T H) (hdef : defaultsOf params X.env = ([], [])) (hfree : ∀ y ∈ scope.names, y.2 = .free → ∃ c, X.env.cells.lookup y.1 = some c)
    (h : ∀ (f c' : Addr) (H1 : Hp) (s' : Shared), Inv X pins σ H1 s' → ExtN H H1 → (∀ b, H1 b = none → H b = none) → TabsN T H1 → H f = none → H1 f = some (FnL f ⟨"<lambda>", X.env.qual ++ "<lambda>", params, [], scope, cloFrom X.env.cells scope.names [], c'⟩ body) → H1 c' = some (CodeO c' (X.env.qual ++ "<lambda>")) → Q (.ref f) s') :
    wpAny (model X.prog X.w) X.A (eval (.Lambda params body scope pos) X.env) Q E s := by
  obtain ⟨ps, hP, ht, ha⟩ := (show TabN H P nm from hT _ hm)
  have bP : s.heap.BuiltinsAt X.mg P := TB.bm.keeps I.bk
  have hP' : s.heap.get? P = some { cls := .none, data := .fields ps } := I.hok P _ hP
  refine PySem.W.kla_eval hdef ?_
  cases hc : codeAmong pos ps.toList with
  | none =>
    refine PySem.W.kla_makeFunction (mg := X.mg) (c := c) (P := P) (ps := ps) (closure_ok hfree) I.ok.glob (I.mod.glob.keeps I.bk) hcode (TB.code.keeps I.bk) hP' ht hc TB.gP bP fun c' ctv h' tk hx hge hlt hrec htb => ?_
    obtain ⟨c2, oc, vs, t, e2, hoc, hd, hv⟩ := hrec
    cases e2
    have nC : H c' = none := I.hok.fresh hge
    have I1 := inv_table (t' := tk) (more := #[rawInt pos.line, rawInt pos.col, .ref c']) (h' := h') I hP (fun b o hb e => hx b o hb e) htb hge ⟨oc, vs, t, hoc, hd, hv⟩
    generalize eH1 : upd (upd H P (.tbl (ps ++ #[rawInt pos.line, rawInt pos.col, .ref c']))) c' (CodeO c' (X.env.qual ++ "<lambda>")) = H1
    have hE : ExtN H H1 := fun b o e n => by
      have n1 : b ≠ P := fun z => n ps (Option.some.inj (e.symm.trans (by rw [z]; exact hP)))
      rw [← eH1, upd_ne (ne_of_none e nC), upd_ne n1]
      exact e
    have T1 : TabsN T H1 := fun p hp => by
      by_cases hb : p.1 = P
      · have e3 : p.2 = nm := hu p hp hb
        rw [e3, hb]
        refine ⟨ps ++ #[rawInt pos.line, rawInt pos.col, .ref c'], by rw [← eH1, upd_ne (ne_of_none hP nC), upd_same], ?_, fun p' cv hcv => ?_⟩
        · rw [Array.toList_append]
          exact PySem.TriplesOk_snoc _ _ _ _ ht
        · rw [Array.toList_append] at hcv
          rcases among_app2 _ ht hcv with z | ⟨z, z1, z2⟩
          · obtain ⟨c0, e1, e2⟩ := ha p' cv z
            exact ⟨c0, e1, hE _ _ e2 codeO_ne⟩
          · refine ⟨c', z, ?_⟩
            rw [← z1, ← z2, hn, ← eH1]
            exact upd_same
      · obtain ⟨ps', a1, a2, a3⟩ := hT p hp
        refine ⟨ps', by rw [← eH1, upd_ne (ne_of_none a1 nC), upd_ne hb]; exact a1, a2, fun p' cv hcv => ?_⟩
        obtain ⟨c0, e1, e2⟩ := a3 p' cv hcv
        exact ⟨c0, e1, hE _ _ e2 codeO_ne⟩
    have cH1 : H1 c' = some (CodeO c' (X.env.qual ++ "<lambda>")) := by rw [← eH1]; exact upd_same
    have back : ∀ b, H1 b = none → H b = none := fun b e => by
      rw [← eH1] at e
      exact upd_none (upd_none e)
    rw [eH1] at I1
    have nF := I1.hok.fresh (Nat.le_refl _)
    have I2 := inv_fnL (F := ⟨"<lambda>", X.env.qual ++ "<lambda>", params, [], scope, cloFrom X.env.cells scope.names [], c'⟩) (e := body) (t' := tk) (pm := (X.mg "__name__").getD .none) (ctv := ctv) I1 rfl
    refine h h'.objs.size c' _ _ I2 (fun b o e n => ?_) (fun b e => back b (upd_none e)) (T1.ext fun b o e => ?_) (I.hok.fresh (Nat.le_trans hge (Nat.le_of_lt hlt))) upd_same ?_
    · exact (upd_ne (ne_of_none (hE b o e n) nF)).trans (hE b o e n)
    · exact (upd_ne (ne_of_none e nF)).trans e
    · exact (upd_ne (Nat.ne_of_lt hlt)).trans cH1
  | some cv =>
    obtain ⟨c', e, hco⟩ := ha pos cv hc
    subst e
    rw [hn] at hco
    refine PySem.W.kla_makeFunctionHit (mg := X.mg) (c := c) (P := P) (ps := ps) (closure_ok hfree) I.ok.glob (I.mod.glob.keeps I.bk) hcode (TB.code.keeps I.bk) hP' ht hc bP fun ctv h' tk hx hsz => ?_
    have I1 : Inv X pins σ H { s with heap := h', toks := tk } := I.kept hx
    have nF : H h'.objs.size = none := I1.hok.fresh (Nat.le_refl _)
    have I2 := inv_fnL (F := ⟨"<lambda>", X.env.qual ++ "<lambda>", params, [], scope, cloFrom X.env.cells scope.names [], c'⟩) (e := body) (t' := tk) (pm := (X.mg "__name__").getD .none) (ctv := ctv) I1 rfl
    refine h h'.objs.size c' _ _ I2 (fun b o e n => ?_) (fun b e => upd_none e) (hT.ext fun b o e => ?_) nF upd_same ?_
    · exact (upd_ne (ne_of_none e nF)).trans e
    · exact (upd_ne (ne_of_none e nF)).trans e
    · exact (upd_ne (ne_of_none hco nF)).trans hco
end
/-- the reading of a lambda's making -/
def tLamV (T : List NTab) (mk : Addr → NF) (body : Expr) : TE := fun σ H Q => TabsN T H ∧ ∀ (f c' : Addr) (H1 : Hp), ExtN H H1 → (∀ b, H1 b = none → H b = none) → TabsN T H1 → H f = none → H1 f = some (FnL f (mk c') body) → H1 c' = some (CodeO c' (mk c').qual) → Q (.ref f) H1
theorem pe_lamV {X : Cx} {T : List NTab} {nm : Nat → Nat → Str} {c P : Addr} {params : Arguments} {body : Expr} {scope : Scope} {pos : Pos} (TB : TabB X.base X.mg c P) (hcode : X.env.code = .ref c) (hm : (P, nm) ∈ T) (hn : nm pos.line pos.col = X.env.qual ++ "<lambda>") (hu : ∀ p ∈ T, p.1 = P → p.2 = nm)
    (hdef : defaultsOf params X.env = ([], [])) (hfree : ∀ y ∈ scope.names, y.2 = .free → X.env.scope.names.lookup y.1 = some .cell ∨ X.env.scope.names.lookup y.1 = some .free) :
    PE X (.Lambda params body scope pos) (tLamV T (fun c' => ⟨"<lambda>", X.env.qual ++ "<lambda>", params, [], scope, cloFrom X.env.cells scope.names [], c'⟩) body) := by
  refine ⟨fun pins s σ H Q I h => ?_⟩
  obtain ⟨hT, h⟩ := h
  have hfr : ∀ y ∈ scope.names, y.2 = .free → ∃ c, X.env.cells.lookup y.1 = some c := fun y hy e => (hfree y hy e).elim (fun z => I.ok.has _ (.inl z)) fun z => I.ok.has _ (.inr z)
  exact lam_made I TB hcode hm hn hu hT hdef hfr fun f c' H1 s' I1 eN back T1 f0 f1 c1 => ⟨.ref f, H1, I1, rfl, h f c' H1 eN back T1 f0 f1 c1⟩
end Vf
set_option Elab.async false
set_option linter.all false
set_option maxRecDepth 100000
set_option maxHeartbeats 4000000
/-! machines explored: the mirror, keys, dicts of numbers -/
namespace Vf
open PySem L2 PyProof.Rows NdefX LamX
section
variable {κ : Type} [DecidableEq κ]
/-- the number of a key among those found -/
def num (ks : List κ) (k : κ) : Nat := ks.idxOf k
/-- one letter: the key behind is added where it is new -/
def add1 (ks : List κ) (k : κ) : List κ := if k ∈ ks then ks else ks ++ [k]
/-- a row: state (keys, row) over the letters -/
def rowOf (st : κ → Nat → κ) (m : κ) : List Nat → List κ × List Nat → List κ × List Nat
  | [], p => p
  | c :: cs, (ks, row) => rowOf st m cs (add1 ks (st m c), row ++ [num (add1 ks (st m c)) (st m c)])
/-- one turn of the exploring -/
def turn (st : κ → Nat → κ) (L : List Nat) (p : List κ × List (List Nat)) : List κ × List (List Nat) :=
  match p.1[p.2.length]? with
  | none => p
  | some m => ((rowOf st m L (p.1, [])).1, p.2 ++ [(rowOf st m L (p.1, [])).2])
def turns (st : κ → Nat → κ) (L : List Nat) (s0 : κ) : Nat → List κ × List (List Nat)
  | 0 => ([s0], [])
  | n + 1 => turn st L (turns st L s0 n)
theorem add1_mem {ks : List κ} {k : κ} : k ∈ add1 ks k := by
  unfold add1
  split
  · assumption
  · simp
theorem add1_sub {ks : List κ} {k x : κ} (h : x ∈ ks) : x ∈ add1 ks k := by
  unfold add1
  split
  · exact h
  · simp [h]
theorem add1_pre (ks : List κ) (k : κ) : ks <+: add1 ks k := by
  unfold add1
  split
  · exact List.prefix_refl _
  · exact List.prefix_append _ _
theorem add1_nodup {ks : List κ} {k : κ} (h : ks.Nodup) : (add1 ks k).Nodup := by
  unfold add1
  split
  · exact h
  · rename_i hn
    exact List.nodup_append.mpr ⟨h, by simp, fun a ha b hb e => by simp at hb; subst hb; subst e; exact hn ha⟩
theorem add1_len (ks : List κ) (k : κ) : (add1 ks k).length ≤ ks.length + 1 := by
  unfold add1
  split
  · omega
  · simp
theorem rowOf_pre (st : κ → Nat → κ) (m : κ) : ∀ (L : List Nat) (p : List κ × List Nat), p.1 <+: (rowOf st m L p).1
  | [], p => List.prefix_refl _
  | c :: cs, (ks, row) => (add1_pre ks (st m c)).trans (rowOf_pre st m cs (add1 ks (st m c), row ++ [num (add1 ks (st m c)) (st m c)]))
theorem rowOf_nodup (st : κ → Nat → κ) (m : κ) : ∀ (L : List Nat) (p : List κ × List Nat), p.1.Nodup → (rowOf st m L p).1.Nodup
  | [], p, h => h
  | c :: cs, (ks, row), h => rowOf_nodup st m cs _ (add1_nodup h)
theorem rowOf_len (st : κ → Nat → κ) (m : κ) : ∀ (L : List Nat) (p : List κ × List Nat), (rowOf st m L p).1.length ≤ p.1.length + L.length
  | [], p => Nat.le_refl _
  | c :: cs, (ks, row) => by
    have h1 := rowOf_len st m cs (add1 ks (st m c), row ++ [num (add1 ks (st m c)) (st m c)])
    have h2 := add1_len ks (st m c)
    show (rowOf st m cs (add1 ks (st m c), row ++ [num (add1 ks (st m c)) (st m c)])).1.length ≤ ks.length + (cs.length + 1)
    dsimp only at h1
    omega
theorem rowOf_row (st : κ → Nat → κ) (m : κ) : ∀ (L : List Nat) (p : List κ × List Nat), (rowOf st m L p).2.length = p.2.length + L.length
  | [], p => rfl
  | c :: cs, (ks, row) => by
    have h1 := rowOf_row st m cs (add1 ks (st m c), row ++ [num (add1 ks (st m c)) (st m c)])
    show (rowOf st m cs (add1 ks (st m c), row ++ [num (add1 ks (st m c)) (st m c)])).2.length = row.length + (cs.length + 1)
    rw [h1, List.length_append]
    show row.length + 1 + cs.length = row.length + (cs.length + 1)
    omega
theorem rowOf_append (st : κ → Nat → κ) (m : κ) : ∀ (L L' : List Nat) (p : List κ × List Nat), rowOf st m (L ++ L') p = rowOf st m L' (rowOf st m L p)
  | [], L', p => rfl
  | c :: cs, L', (ks, row) => rowOf_append st m cs L' _
theorem turn_pre (st : κ → Nat → κ) (L : List Nat) (p : List κ × List (List Nat)) : p.1 <+: (turn st L p).1 := by
  unfold turn
  split
  · exact List.prefix_refl _
  · exact rowOf_pre st _ L (p.1, [])
theorem turns_pre (st : κ → Nat → κ) (L : List Nat) (s0 : κ) : ∀ {i n : Nat}, i ≤ n → (turns st L s0 i).1 <+: (turns st L s0 n).1
  | i, 0, h => by
    have : i = 0 := by omega
    subst this
    exact List.prefix_refl _
  | i, n + 1, h => by
    by_cases e : i = n + 1
    · subst e; exact List.prefix_refl _
    · exact (turns_pre st L s0 (by omega : i ≤ n)).trans (turn_pre st L _)
theorem turns_len (st : κ → Nat → κ) (L : List Nat) (s0 : κ) {i n : Nat} (h : i ≤ n) : (turns st L s0 i).1.length ≤ (turns st L s0 n).1.length := (turns_pre st L s0 h).length_le
theorem turns_nodup (st : κ → Nat → κ) (L : List Nat) (s0 : κ) : ∀ n, (turns st L s0 n).1.Nodup
  | 0 => by simp [turns]
  | n + 1 => by
    show (turn st L (turns st L s0 n)).1.Nodup
    unfold turn
    split
    · exact turns_nodup st L s0 n
    · exact rowOf_nodup st _ L (_, []) (turns_nodup st L s0 n)
theorem turns_rows_le (st : κ → Nat → κ) (L : List Nat) (s0 : κ) : ∀ n, (turns st L s0 n).2.length ≤ (turns st L s0 n).1.length
  | 0 => by simp [turns]
  | n + 1 => by
    show (turn st L (turns st L s0 n)).2.length ≤ (turn st L (turns st L s0 n)).1.length
    unfold turn
    split
    · exact turns_rows_le st L s0 n
    · rename_i m hm
      have h1 := (List.getElem?_eq_some_iff.mp hm).1
      have h2 := (rowOf_pre st m L ((turns st L s0 n).1, [])).length_le
      rw [List.length_append]
      dsimp only at h2 ⊢
      rw [List.length_singleton]
      omega
/-- once as many rows as keys stand, nothing changes -/
theorem turn_stays (st : κ → Nat → κ) (L : List Nat) {p : List κ × List (List Nat)} (h : p.1.length ≤ p.2.length) : turn st L p = p := by
  unfold turn
  rw [List.getElem?_eq_none h]
theorem turns_stay (st : κ → Nat → κ) (L : List Nat) (s0 : κ) {i : Nat} (h : (turns st L s0 i).1.length ≤ (turns st L s0 i).2.length) : ∀ n, i ≤ n → turns st L s0 n = turns st L s0 i
  | 0, hn => by
    have : i = 0 := by omega
    subst this; rfl
  | n + 1, hn => by
    by_cases e : i = n + 1
    · subst e; rfl
    · have ih := turns_stay st L s0 h n (by omega)
      show turn st L (turns st L s0 n) = _
      rw [ih]
      exact turn_stays st L h
/-- while not all keys have a row, each turn adds one -/
theorem turns_rows (st : κ → Nat → κ) (L : List Nat) (s0 : κ) : ∀ {n : Nat}, (∀ i < n, (turns st L s0 i).2.length < (turns st L s0 i).1.length) → (turns st L s0 n).2.length = n
  | 0, _ => rfl
  | n + 1, h => by
    have ih := turns_rows st L s0 (n := n) fun i hi => h i (by omega)
    have hl := h n (by omega)
    show (turn st L (turns st L s0 n)).2.length = n + 1
    unfold turn
    rw [List.getElem?_eq_getElem hl]
    dsimp only
    rw [List.length_append, List.length_singleton, ih]
/-- what all is found, if no more than most keys come -/
theorem turns_done (st : κ → Nat → κ) (L : List Nat) (s0 : κ) {most : Nat} (h : (turns st L s0 most).1.length ≤ most) : (turns st L s0 most).2.length = (turns st L s0 most).1.length := by
  by_cases q : ∀ i < most, (turns st L s0 i).2.length < (turns st L s0 i).1.length
  · have h1 := turns_rows st L s0 q
    have h2 := turns_rows_le st L s0 most
    omega
  · simp only [Nat.not_lt, Classical.not_forall] at q
    obtain ⟨i, hi, hq⟩ := q
    have e := turns_stay st L s0 hq most (by omega)
    rw [e]
    have h2 := turns_rows_le st L s0 i
    omega
theorem num_lt {ks : List κ} {k : κ} (h : k ∈ ks) : num ks k < ks.length := List.idxOf_lt_length_iff.mpr h
theorem rowOf_all (st : κ → Nat → κ) (m : κ) : ∀ (L : List Nat) (p : List κ × List Nat), (∀ x ∈ p.2, x < p.1.length) → ∀ x ∈ (rowOf st m L p).2, x < (rowOf st m L p).1.length
  | [], p, h => h
  | c :: cs, (ks, row), h => rowOf_all st m cs (add1 ks (st m c), row ++ [num (add1 ks (st m c)) (st m c)]) fun x hx => by
    rcases List.mem_append.mp hx with q | q
    · exact Nat.lt_of_lt_of_le (h x q) (add1_pre ks (st m c)).length_le
    · rw [List.mem_singleton.mp q]
      exact num_lt add1_mem
theorem turns_all (st : κ → Nat → κ) (L : List Nat) (s0 : κ) : ∀ n, ∀ row ∈ (turns st L s0 n).2, row.length = L.length ∧ ∀ x ∈ row, x < (turns st L s0 n).1.length
  | 0, row, h => nomatch h
  | n + 1, row, h => by
    have ih := turns_all st L s0 n
    have hp := (turns_pre st L s0 (Nat.le_succ n)).length_le
    revert h hp
    show row ∈ (turn st L (turns st L s0 n)).2 → (turns st L s0 n).1.length ≤ (turn st L (turns st L s0 n)).1.length → row.length = L.length ∧ ∀ x ∈ row, x < (turn st L (turns st L s0 n)).1.length
    unfold turn
    split
    · intro h _
      exact ih row h
    · rename_i m hm
      intro h hp
      rcases List.mem_append.mp h with q | q
      · exact ⟨(ih row q).1, fun x hx => Nat.lt_of_lt_of_le ((ih row q).2 x hx) hp⟩
      · rw [List.mem_singleton.mp q]
        refine ⟨by rw [rowOf_row]; simp, rowOf_all st m L _ (fun x hx => nomatch hx)⟩
theorem rowOf_dm (st : κ → Nat → κ) {Dm : κ → Prop} {m : κ} (hm : Dm m) : ∀ (L : List Nat) (_ : ∀ k c, Dm k → c ∈ L → Dm (st k c)) (p : List κ × List Nat), (∀ k ∈ p.1, Dm k) → ∀ k ∈ (rowOf st m L p).1, Dm k
  | [], _, p, h => h
  | c :: cs, hD, (ks, row), h => rowOf_dm st hm cs (fun k d hk hd => hD k d hk (List.mem_cons_of_mem _ hd)) (add1 ks (st m c), row ++ [num (add1 ks (st m c)) (st m c)]) fun k hk => by
    have hk : k ∈ add1 ks (st m c) := hk
    unfold add1 at hk
    split at hk
    · exact h k hk
    · rcases List.mem_append.mp hk with q | q
      · exact h k q
      · rw [List.mem_singleton.mp q]; exact hD m c hm List.mem_cons_self
theorem turns_dm (st : κ → Nat → κ) (L : List Nat) (s0 : κ) {Dm : κ → Prop} (h0 : Dm s0) (hD : ∀ k c, Dm k → c ∈ L → Dm (st k c)) : ∀ n, ∀ k ∈ (turns st L s0 n).1, Dm k
  | 0, k, h => by rw [List.mem_singleton.mp h]; exact h0
  | n + 1, k, h => by
    have ih := turns_dm st L s0 h0 hD n
    revert h
    show k ∈ (turn st L (turns st L s0 n)).1 → Dm k
    unfold turn
    split
    · exact ih k
    · rename_i m hm
      exact rowOf_dm st (ih m (List.mem_of_getElem? hm)) L hD (_, []) ih k
/-! dicts from keys to their numbers -/
def nums (ks : List κ) : List (κ × V) := ks.zipIdx.map fun p => (p.1, V.int (p.2 : Int))
theorem nums_len (ks : List κ) : (nums ks).length = ks.length := by simp [nums]
theorem nums_snoc (ks : List κ) (k : κ) : nums (ks ++ [k]) = nums ks ++ [(k, V.int (ks.length : Int))] := by
  simp [nums, List.zipIdx_append]
theorem valV_append (k : κ) : ∀ (a b : List (κ × V)), valV (a ++ b) k = (valV a k).orElse fun _ => valV b k
  | [], b => rfl
  | p :: a, b => by
    by_cases e : p.1 = k
    · rw [List.cons_append, valV_pos e, valV_pos e]; rfl
    · rw [List.cons_append, valV_neg e, valV_neg e]; exact valV_append k a b
theorem valV_numsAt {k : κ} : ∀ (ks : List κ) (n : Nat), valV ((ks.zipIdx n).map fun p => (p.1, V.int (p.2 : Int))) k = if k ∈ ks then some (V.int ((n + ks.idxOf k : Nat) : Int)) else none
  | [], _ => rfl
  | x :: ks, n => by
    rw [List.zipIdx_cons, List.map_cons]
    by_cases e : x = k
    · subst e
      rw [valV_pos rfl, if_pos (by simp), List.idxOf_cons_self]
      rfl
    · have ex : ¬ k = x := fun z => e z.symm
      rw [valV_neg e, valV_numsAt ks (n + 1)]
      by_cases h : k ∈ ks
      · have e2 : (x :: ks).idxOf k = ks.idxOf k + 1 := by rw [List.idxOf_cons, beq_false_of_ne e]; rfl
        rw [if_pos h, if_pos (by simp [h]), e2]
        congr 2
        omega
      · rw [if_neg h, if_neg (by simp [h, ex])]
theorem valV_nums {k : κ} {ks : List κ} : valV (nums ks) k = if k ∈ ks then some (V.int (num ks k : Nat)) else none := by
  have := valV_numsAt (k := k) ks 0
  rw [Nat.zero_add] at this
  exact this
theorem putK_nums {ks : List κ} {k : κ} (h : k ∉ ks) : putK (nums ks) k (V.int (ks.length : Int)) = nums (ks ++ [k]) := by
  rw [nums_snoc, putK_new]
  rw [valV_nums, if_neg h]
end
/-! {k: v}, one pair, the key a tuple -/
def tDispT (tk tv : TE) : TE := fun σ H Q => ∀ p, H p = none → tPairs [(tk, tv)] σ (L2.upd H p (.dT [])) fun ps H2 => H2 p = some (.dT []) ∧
  ∃ (x : List Key) (b : Addr) (v : V), ps = [(.ref b, v)] ∧ H2 b = some (.tup (x.map kV)) ∧ Q (.ref p) (L2.upd H2 p (.dT [(x, v)]))
theorem Raised.aft {H H1 H' : Hp} {d : Addr} {f : Str} {v : V} (s : Same H H1) (r : Raised H1 H' d f v) : Raised H H' d f v := ⟨s.free r.1, r.2.1, s.trans r.2.2⟩
/-! kinds of keys: ints and texts; tuples of them -/
structure Kd (κ : Type) [DecidableEq κ] where
  at_ : Hp → V → κ → Prop
  dic : List (κ × V) → HO
  get : ∀ {H : Hp} {a : Addr} {v : V} {k : κ} {kvs : List (κ × V)}, H a = some (dic kvs) → at_ H v k → DGet H a v (valV kvs k)
  put : ∀ {H : Hp} {a : Addr} {v x : V} {k : κ} {kvs : List (κ × V)}, H a = some (dic kvs) → at_ H v k → kvs.length < sizeLine → DPut H a v x (L2.upd H a (dic (putK kvs k x)))
  isd : ∀ {H : Hp} {a : Addr} {kvs : List (κ × V)}, H a = some (dic kvs) → IsD H a
  keep : ∀ {H H' : Hp} {v : V} {k : κ}, at_ H v k → (∀ b xs, H b = some (.tup xs) → H' b = some (.tup xs)) → at_ H' v k
  some_ : ∀ {H : Hp} {v : V} {k : κ}, at_ H v k → v ≠ .non
  disp : ∀ {σ : L2.St} {H : Hp} {i : Nat} {Q : VK} {v : V} {k : κ} {n : Int}, σ[i]? = some (some v) → at_ H v k → (∀ p, H p = none → Q (.ref p) (L2.upd H p (dic [(k, .int n)]))) →
    tDisp [(tVar i, tC (.int n))] σ H Q ∨ tDispT (tVar i) (tC (.int n)) σ H Q
  notLst : ∀ kvs xs, dic kvs ≠ .lst xs
  notTup : ∀ kvs xs, dic kvs ≠ .tup xs
  notExt : ∀ kvs φ, dic kvs ≠ .ext φ
def kdK : Kd Key where
  at_ := fun _ v k => v = kV k
  dic := .dK
  get := fun e h => by rw [h]; exact DGet.k e
  put := fun e h l => by rw [h]; exact DPut.k e l
  isd := fun e => .inl ⟨_, .inl e⟩
  keep := fun h _ => h
  some_ := fun {H v k} h => by rw [h]; cases k <;> exact fun z => nomatch z
  disp := fun {σ H i Q v k n} e h q => .inl fun p hp => ⟨v, e, upd_same, [(k, .int n)], by rw [h]; rfl, by show 1 ≤ 15; omega, by rw [upd_upd]; exact q p hp⟩
  notLst := fun _ _ z => nomatch z
  notTup := fun _ _ z => nomatch z
  notExt := fun _ _ z => nomatch z
def kdT : Kd (List Key) where
  at_ := fun H v k => ∃ b, v = .ref b ∧ H b = some (.tup (k.map kV))
  dic := .dT
  get := fun e ⟨b, h1, h2⟩ => by rw [h1]; exact DGet.t e h2
  put := fun e ⟨b, h1, h2⟩ l => by rw [h1]; exact DPut.t e h2 l
  isd := fun e => .inr ⟨_, .inl e⟩
  keep := fun ⟨b, h1, h2⟩ k => ⟨b, h1, k _ _ h2⟩
  some_ := fun ⟨b, h1, _⟩ => by rw [h1]; exact fun z => nomatch z
  disp := fun {σ H i Q v k n} e ⟨b, h1, h2⟩ q => .inr fun p hp => ⟨v, e, upd_same, k, b, .int n, by rw [h1], by rw [upd_ne (ne_of_none h2 hp)]; exact h2, by rw [upd_upd]; exact q p hp⟩
  notLst := fun _ _ z => nomatch z
  notTup := fun _ _ z => nomatch z
  notExt := fun _ _ z => nomatch z
section
variable {X : Cx}
theorem pe_or {e : Expr} {t u : TE} (h : PE X e t) (g : PE X e u) : PE X e (fun σ H Q => t σ H Q ∨ u σ H Q) :=
  ⟨fun pins s σ H Q I q => q.elim (h.run pins s σ H Q I) (g.run pins s σ H Q I)⟩
theorem pe_dispT {k v : Expr} {tk tv : TE} {pos : Pos} (hu : X.A.units + 1 < cLine) (hk : PE X k tk) (hv : PE X v tv) : PE X (.Dict [some k] [v] pos) (tDispT tk tv) := by
  refine ⟨fun pins s σ H Q I q => ?_⟩
  have hn := I.hok.fresh (Nat.le_refl s.heap.objs.size)
  have I1 := I.laid (a := s.heap.objs.size) (o := .dT []) (h' := s.heap.push { cls := .type "dict", data := .dict #[] }) (t' := s.toks) (fun _ _ q => Heap.get?_push_of_some _ q) (Nat.le_refl _) (dt_empty s.heap I.big)
  have hp := pps_cons (pos := pos) hk hv (pps_nil (X := X) (pos := pos))
  have hall : ([some k] : List (Option Expr)).all (·.isSome) = true := rfl
  have h0 : pairTrees [some k] [v] X.env pos ≠ [] := fun e => by
    have := pairTrees_length [some k] [v] X.env pos hall rfl
    rw [e] at this
    cases this
  have h15 : (pairTrees [some k] [v] X.env pos).length ≤ 15 := by
    rw [pairTrees_length [some k] [v] X.env pos hall rfl]
    show 1 ≤ 15
    omega
  have hz := zip_pairTrees [some k] [v] X.env pos hall rfl
  rw [PySem.arm_eval_Dict, hz, PySem.dictDisplay_pairs _ h0 (by omega)]
  refine wpAny_bind (wpAny_standAt (wpAny_bind (PySem.wpAny_subDictH (knd := tupleKind (mixKind X.prog X.w)) (show X.A.units < cLine by omega) h15 (thn (hp.run pins _ σ _ _ I1 (q _ hn)) ?_))))
  rintro ws s2 ⟨ps, H2, I2, rel, e, x, b, vx, rfl, eb, q2⟩
  cases rel with
  | @cons _ pq _ _ r0 r1 =>
    cases r1
    obtain ⟨ku, vu⟩ := pq
    obtain ⟨rk, rv⟩ := r0
    have ek : ku = Value.ref b := rk
    subst ek
    obtain ⟨z, hd, xs0, r0, dd⟩ := dt_of I2.hok e
    cases r0
    refine ⟨[(x, b, vu)], ⟨rfl, rfl, key_of I2.hok eb, trivial⟩, dd, fun h' tk' dd' hs => wpAny_pure ⟨.ref s.heap.objs.size, _, ?_, rfl, q2⟩⟩
    obtain ⟨o, es, ep, ho, h2, h3, h4, h5, h6⟩ := dd'
    have nb : b ≠ s.heap.objs.size := ne_of eb e (fun z => nomatch z)
    have new : ObjOk X.prog X.w (L2.upd H2 s.heap.objs.size (.dT [(x, vx)])) h' s.heap.objs.size (.dT [(x, vx)]) := by
      refine ⟨by rw [sizeLine_eq]; show 1 ≤ _; decide, hd, [(x, b, vu)], .cons ⟨rfl, ?_, rv⟩ .nil, o, es, ep, ho, h2, h3, h4, h6⟩
      show L2.upd H2 s.heap.objs.size (.dT [(x, vx)]) b = some (.tup (x.map kV))
      rw [upd_ne nb]
      exact eb
    exact d_write I2 (by rw [e]; exact True.intro) hs ⟨o, ho⟩ new
end
end Vf
set_option Elab.async false
set_option linter.all false
set_option maxRecDepth 100000
set_option maxHeartbeats 4000000
/-! zip of two: lists, tuples, texts in any mix -/
namespace Vf
open PySem L2 PyProof.Rows
inductive Sr where
  | l (a : Addr) | t (a : Addr) | s (z : Str)
def Sr.v : Sr → V
  | .l a => .ref a
  | .t a => .ref a
  | .s z => .str z
def Sr.at_ : Sr → Option Addr
  | .l a => some a
  | .t a => some a
  | .s _ => none
def SrI (K : PySem.W.Frag) (H : Hp) : Sr → List V → Prop
  | .l a, xs => SqL K H a xs
  | .t a, xs => SqT K H a xs
  | .s z, xs => xs = (TL.tl z).map fun c => V.str (sg c)
def SrSt : Sr → Tok → Addr → Nat → Heap → Prop
  | .l a, _, it, i, h => h.IsListIter it a i
  | .t a, _, it, i, h => h.IsTupleIter it a i
  | .s z, t, it, i, h => h.IsStrIter it (strIterType z) z t i
theorem SrI.same {K : PySem.W.Frag} {H H' : Hp} {r : Sr} {xs : List V} (s : Same H H') (h : SrI K H r xs) : SrI K H' r xs := by
  cases r with
  | l a => exact s.seq h
  | t a =>
    have h : SqT K H a xs := h
    rcases h with (h | ⟨o, h⟩) | h
    · exact .inl (.inl (s _ _ h))
    · exact .inl (.inr ⟨o, s _ _ h⟩)
    · exact .inr h
  | s z => exact h
theorem srSt_obj {r : Sr} {t : Tok} {it : Addr} {i : Nat} {h : Heap} (st : SrSt r t it i h) : ∃ o, h.get? it = some o ∧ ∀ v, o.data ≠ .cell v := by
  cases r with
  | l a => obtain ⟨o, e, _, d⟩ := st; exact ⟨o, e, fun v q => by rw [d] at q; cases q⟩
  | t a => obtain ⟨o, e, _, d⟩ := st; exact ⟨o, e, fun v q => by rw [d] at q; cases q⟩
  | s z => obtain ⟨o, e, _, d⟩ := st; exact ⟨o, e, fun v q => by rw [d] at q; cases q⟩
theorem srSt_keep {r : Sr} {t : Tok} {it : Addr} {i : Nat} {h h' : Heap} (st : SrSt r t it i h) (k : ∀ o, h.get? it = some o → h'.get? it = some o) : SrSt r t it i h' := by
  cases r with
  | l a => exact Heap.IsListIter.at st k
  | t a => obtain ⟨o, e, q⟩ := st; exact ⟨o, k o e, q⟩
  | s z => obtain ⟨o, e, q⟩ := st; exact ⟨o, k o e, q⟩
/-- what one draws of it -/
structure Dr (X : Cx) (r : Sr) (t : Tok) (it : Addr) (i : Nat) (xs : List V) (s : Shared) (n : Nat) (P : Nat → Value → Prop) (St : Nat → Heap → Prop) (fp : List Addr) : Prop where
  d : Draws X.prog X.w X.A.in1 it fp n P St
  st : St i s.heap
  n_ : n = xs.length
  p_ : ∀ j v, P j v → ∃ x, xs[j]? = some x ∧ RelV x v
  nx : ∀ h', St (i + 1) h' → SrSt r t it (i + 1) h'
  fp_ : ∀ b ∈ fp, b = it ∨ r.at_ = some b
  mem : it ∈ fp
theorem sr_draw {X : Cx} {pins : List (Addr × Obj)} {σ : L2.St} {H : Hp} {s : Shared} {r : Sr} {t : Tok} {it : Addr} {i : Nat} {xs : List V} (I : Inv X pins σ H s) (hh : X.A.handled = none) (e : SrI X.K H r xs) (st : SrSt r t it i s.heap) (na : ∀ a, r.at_ = some a → a ≠ it) :
    ∃ n P St fp, Dr X r t it i xs s n P St fp := by
  cases r with
  | l a =>
    obtain ⟨its, rv, p, _⟩ := I.list e
    refine ⟨_, _, _, _, ⟨Draws.list (prog := X.prog) (w := X.w) (A := X.A.in1) hh it a (na a rfl) its.toArray, ⟨st, p.isList⟩, by simpa using rv.length.symm, fun j v hv => ?_, fun h' q => q.1, fun b hb => ?_, by simp⟩⟩
    · have hv : its[j]? = some v := by simpa using hv
      have hj : j < xs.length := by
        have := (List.getElem?_eq_some_iff.mp hv).1
        rw [rv.length]; exact this
      obtain ⟨u, hu, ru⟩ := rv.get (List.getElem?_eq_getElem hj)
      rw [hv] at hu; cases hu
      exact ⟨_, List.getElem?_eq_getElem hj, ru⟩
    · simp at hb
      rcases hb with z | z
      · exact .inl z
      · exact .inr (by rw [z]; rfl)
  | t a =>
    obtain ⟨its, rv, p, _⟩ := I.tuple e
    refine ⟨_, _, _, _, ⟨Draws.tuple (prog := X.prog) (w := X.w) (A := X.A.in1) hh it a (na a rfl) its.toArray, ⟨st, p⟩, by simpa using rv.length.symm, fun j v hv => ?_, fun h' q => q.1, fun b hb => ?_, by simp⟩⟩
    · have hv : its[j]? = some v := by simpa using hv
      have hj : j < xs.length := by
        have := (List.getElem?_eq_some_iff.mp hv).1
        rw [rv.length]; exact this
      obtain ⟨u, hu, ru⟩ := rv.get (List.getElem?_eq_getElem hj)
      rw [hv] at hu; cases hu
      exact ⟨_, List.getElem?_eq_getElem hj, ru⟩
    · simp at hb
      rcases hb with z | z
      · exact .inl z
      · exact .inr (by rw [z]; rfl)
  | s z =>
    have e : xs = (TL.tl z).map fun c => V.str (sg c) := e
    refine ⟨_, _, _, _, ⟨Draws.text (prog := X.prog) (w := X.w) (A := X.A.in1) hh it z t, st, by rw [e, List.length_map]; exact TL.len_tl z, fun j v hv => ?_, fun h' q => q, fun b hb => ?_, by simp⟩⟩
    · obtain ⟨c, u, h1, rfl⟩ := hv
      refine ⟨.str (sg c), ?_, ⟨u, rfl⟩⟩
      have h2 : (TL.tl z)[j]? = some c := by simpa using h1
      rw [e, List.getElem?_map, h2]
      rfl
    · simp at hb
      exact .inl hb
theorem sr_inj {X : Cx} {pins : List (Addr × Obj)} {σ : L2.St} {H : Hp} {s : Shared} {r : Sr} {xs ys : List V} (I : Inv X pins σ H s) (e : SrI X.K H r xs) (e2 : SrI X.K H r ys) : xs = ys := by
  cases r with
  | l a => exact I.list_inj e e2
  | t a => exact I.tuple_inj e e2
  | s z => exact Eq.trans e (Eq.symm e2)
def Itzz (K : PySem.W.Frag) (a b : Sr) : It :=
  ⟨fun i H => ∃ xs ys, SrI K H a xs ∧ SrI K H b ys ∧ i < xs.length ∧ i < ys.length,
   fun i H v H' => ∃ T x y, v = .ref T ∧ H T = none ∧ H' = L2.upd H T (.tup [x, y]) ∧ (∀ xs, SrI K H a xs → xs[i]? = some x) ∧ (∀ ys, SrI K H b ys → ys[i]? = some y),
   fun i H => ∃ xs ys, SrI K H a xs ∧ SrI K H b ys ∧ i ≤ xs.length ∧ i ≤ ys.length ∧ (i = xs.length ∨ i = ys.length)⟩
/-- the five cells of a zip, and the two sources, apart -/
structure ZA (z TI TO i1 i2 : Addr) (a b : Sr) : Prop where
  n1 : TI ≠ z
  n2 : TO ≠ z
  n3 : TI ≠ TO
  n4 : TI ≠ i1
  n5 : TI ≠ i2
  n6 : z ≠ i1
  n7 : z ≠ i2
  n8 : TO ≠ i1
  n9 : TO ≠ i2
  n10 : i1 ≠ i2
  a_ : ∀ c, a.at_ = some c → c ≠ z ∧ c ≠ TO ∧ c ≠ i1 ∧ c ≠ i2
  b_ : ∀ c, b.at_ = some c → c ≠ z ∧ c ≠ TO ∧ c ≠ i1 ∧ c ≠ i2
theorem ZA.sep {z TI TO i1 i2 : Addr} {a b : Sr} {fp1 fp2 : List Addr} (D : ZA z TI TO i1 i2 a b) (h1 : ∀ c ∈ fp1, c = i1 ∨ a.at_ = some c) (m1 : i1 ∈ fp1) (h2 : ∀ c ∈ fp2, c = i2 ∨ b.at_ = some c) (m2 : i2 ∈ fp2) : ZipSep2 z TI TO i1 i2 fp1 fp2 := by
  refine ⟨D.n1, D.n2, D.n3, D.n4, m1, fun h => ?_, fun h => ?_, D.n5, m2, fun h => ?_, fun h => ?_, fun h => ?_, fun h => ?_⟩
  · exact (h1 _ h).elim D.n6 fun e => (D.a_ _ e).1 rfl
  · exact (h1 _ h).elim D.n8 fun e => (D.a_ _ e).2.1 rfl
  · exact (h2 _ h).elim D.n7 fun e => (D.b_ _ e).1 rfl
  · exact (h2 _ h).elim D.n9 fun e => (D.b_ _ e).2.1 rfl
  · exact (h2 _ h).elim D.n10 fun e => (D.b_ _ e).2.2.1 rfl
  · exact (h1 _ h).elim (fun q => D.n10 q.symm) fun e => (D.a_ _ e).2.2.2 rfl
theorem turn_zz {P : Program} {w : World} {K : PySem.W.Frag} {elts : List Expr} {kk : Nat} {tpos : Pos} {a b : Sr} {t1 t2 : Tok} {z TI TO i1 i2 : Addr} (D : ZA z TI TO i1 i2 a b) :
    Turn P w K (.Tuple elts kk tpos) (Itzz K a b) [z, TI, TO, i1, i2] z (fun i h => IsZip h z TI TO .none ∧ IsTupOf2 h TI (.ref i1) (.ref i2) ∧ (∃ x y, IsTupOf2 h TO x y) ∧ SrSt a t1 i1 i h ∧ SrSt b t2 i2 i h) where
  mem := by simp
  obj := fun i h st c hc => by
    obtain ⟨hz, hTI, ⟨x, y, hTO⟩, s1, s2⟩ := st
    obtain ⟨o1, e1, d1⟩ := srSt_obj s1
    obtain ⟨o2, e2, d2⟩ := srSt_obj s2
    have e' : c = z ∨ c = TI ∨ c = TO ∨ c = i1 ∨ c = i2 := by simpa using hc
    rcases e' with rfl | rfl | rfl | rfl | rfl
    · exact ⟨_, hz, fun v q => nomatch q⟩
    · exact ⟨_, hTI, fun v q => nomatch q⟩
    · exact ⟨_, hTO, fun v q => nomatch q⟩
    · exact ⟨o1, e1, d1⟩
    · exact ⟨o2, e2, d2⟩
  keep := fun i h h' st k => by
    obtain ⟨hz, hTI, ⟨x, y, hTO⟩, s1, s2⟩ := st
    exact ⟨k z (by simp) _ hz, k TI (by simp) _ hTI, ⟨x, y, k TO (by simp) _ hTO⟩, srSt_keep s1 fun o q => k i1 (by simp) o q, srSt_keep s2 fun o q => k i2 (by simp) o q⟩
  item := by
    intro X hP hw hK hc i pins s σ H E I hf st hg
    subst hP hw hK
    obtain ⟨hz, hTI, ⟨x0, y0, hTO⟩, s1, s2⟩ := st
    obtain ⟨xs, ys, ea, eb, l1, l2⟩ := hg
    have hh := I.ok.hd hc
    obtain ⟨n1, P1, St1, fp1, D1⟩ := sr_draw (t := t1) I hh ea s1 fun c e => (D.a_ c e).2.2.1
    obtain ⟨n2, P2, St2, fp2, D2⟩ := sr_draw (t := t2) I hh eb s2 fun c e => (D.b_ c e).2.2.2
    have hzl : z < s.heap.objs.size := Heap.lt_size hz
    refine wpAny_pyNext_zipD2_item (D.sep D1.fp_ D1.mem D2.fp_ D2.mem) D1.d D2.d hz hTI hTO D1.st D2.st (by rw [D1.n_]; exact l1) (by rw [D2.n_]; exact l2) fun u u2 h' tk p1 p2 z' TO' h1' h2' hT hsz hk => ?_
    obtain ⟨x, hx, ru⟩ := D1.p_ _ _ p1
    obtain ⟨y, hy, ru2⟩ := D2.p_ _ _ p2
    refine ⟨_, rfl, wpAny_letOwnedTupleGo_zip (s := { s with heap := h', toks := tk }) z' fun h'' z'' sb => ?_⟩
    have hT2 : h''.get? s.heap.objs.size = some { cls := .type "tuple", data := .seq #[u, u2] } := (sb.2 _ (Nat.ne_of_gt hzl)).trans hT
    have new : ObjOk X.prog X.w (L2.upd H s.heap.objs.size (.tup [x, y])) h'' s.heap.objs.size (.tup [x, y]) :=
      ⟨by show 2 ≤ sizeLine; decide, [u, u2], .cons ru (.cons ru2 .nil), ⟨_, hT2, rfl, _, rfl⟩⟩
    have I1 : Inv X pins σ (L2.upd H s.heap.objs.size (.tup [x, y])) { s with heap := h'', toks := tk } :=
      I.turnedNew (t' := tk) (ch := [z, TI, TO, i1, i2]) (fun c o hb q => (sb.2 c (fun q' => hb (by simp [q']))).trans (hk c o (fun q' => hb (by simp [q'])) (fun q' => hb (by simp [q'])) (fun q' => hb (by simp [q'])) (fun q' => hb (by simp [q'])) q)) hf (Nat.le_refl _) new
    have kTI : h'.get? TI = some { cls := .type "tuple", data := .seq #[.ref i1, .ref i2] } := hk _ _ D.n1 D.n3 D.n4 D.n5 hTI
    refine ⟨.ref s.heap.objs.size, _, I1, rfl, ⟨_, x, y, rfl, I.hok.fresh (Nat.le_refl _), rfl, fun l hl => by rw [sr_inj I hl ea]; exact hx, fun l hl => by rw [sr_inj I hl eb]; exact hy⟩, ⟨z'', (sb.2 _ D.n1).trans kTI, ⟨u, u2, (sb.2 _ D.n2).trans TO'⟩, srSt_keep (D1.nx _ h1') fun o q => (sb.2 _ D.n6.symm).trans q, srSt_keep (D2.nx _ h2') fun o q => (sb.2 _ D.n7.symm).trans q⟩, fun c hcm => ?_⟩
    obtain ⟨o1, e1, _⟩ := srSt_obj s1
    obtain ⟨o2, e2, _⟩ := srSt_obj s2
    have hlt : c < s.heap.objs.size := by
      have e' : c = z ∨ c = TI ∨ c = TO ∨ c = i1 ∨ c = i2 := by simpa using hcm
      rcases e' with rfl | rfl | rfl | rfl | rfl
      · exact hzl
      · exact Heap.lt_size hTI
      · exact Heap.lt_size hTO
      · exact Heap.lt_size e1
      · exact Heap.lt_size e2
    rw [upd_ne (Nat.ne_of_lt hlt)]
    exact (hf c hcm).1
  done := by
    intro X hP hw hK hc i pins s σ H E I hf st hg
    subst hP hw hK
    obtain ⟨hz, hTI, ⟨x0, y0, hTO⟩, s1, s2⟩ := st
    obtain ⟨xs, ys, ea, eb, l1, l2, hend⟩ := hg
    have hh := I.ok.hd hc
    obtain ⟨n1, P1, St1, fp1, D1⟩ := sr_draw (t := t1) I hh ea s1 fun c e => (D.a_ c e).2.2.1
    obtain ⟨n2, P2, St2, fp2, D2⟩ := sr_draw (t := t2) I hh eb s2 fun c e => (D.b_ c e).2.2.2
    refine wpAny_pyNext_zipD2_end (D.sep D1.fp_ D1.mem D2.fp_ D2.mem) D1.d D2.d hz hTI hTO D1.st D2.st (by rw [D1.n_]; exact l1) (by rw [D2.n_]; exact l2) (by rw [D1.n_, D2.n_]; exact hend) fun h' tk hk => ⟨rfl, ?_⟩
    exact I.turnedL (t' := tk) (ch := [z, TI, TO, i1, i2]) (fun c o hb q => hk c o (fun q' => hb (by simp [q'])) (fun q' => hb (by simp [q'])) (fun q' => hb (by simp [q'])) (fun q' => hb (by simp [q'])) q) hf
  self := fun A i s Q E st h => wpAny_pyIter_zip st.1 h
def iZz (K : PySem.W.Frag) (ta : TA) : TI := fun σ H R => ta σ H fun vs H1 => ∃ a b xs ys, vs = [a.v, b.v] ∧ SrI K H1 a xs ∧ SrI K H1 b ys ∧ R (Itzz K a b) H1
theorem sr_begin {X : Cx} {pins : List (Addr × Obj)} {σ : L2.St} {H : Hp} {s : Shared} {r : Sr} {xs : List V} {u : Value} (I : Inv X pins σ H s) (e : SrI X.K H r xs) (ru : RelV r.v u) :
    ∃ (o : Obj) (Hq : Heap → Prop) (t : Tok), Begins u o Hq ∧ Hq s.heap ∧ (∀ it h, h.get? it = some o → SrSt r t it 0 h) ∧ ∀ a, r.at_ = some a → a < s.heap.objs.size := by
  cases r with
  | l a =>
    obtain ⟨its, rv, p, _⟩ := I.list e
    obtain rfl : u = Value.ref a := ru
    refine ⟨_, _, 0, begins_list a its.toArray, p.isList, fun it h q => ⟨_, q, rfl, rfl⟩, fun b hb => ?_⟩
    cases hb
    exact p.lt
  | t a =>
    obtain ⟨its, rv, p, _⟩ := I.tuple e
    obtain rfl : u = Value.ref a := ru
    refine ⟨_, _, 0, begins_tuple a its.toArray, p, fun it h q => ⟨_, q, rfl, rfl⟩, fun b hb => ?_⟩
    cases hb
    exact p.lt
  | s z =>
    obtain ⟨t, rfl⟩ := ru
    exact ⟨_, _, t, begins_text z t, trivial, fun it h q => ⟨_, q, rfl, rfl⟩, fun b hb => nomatch hb⟩
theorem pi_zz {X : Cx} {e e2 : Expr} {ta : TA} {p pos tpos : Pos} {elts : List Expr} {kk : Nat} (hg : Gl X "zip") (hm : X.mg "zip" = none) (ha : PA X [e, e2] ta)
    (hs : starEach [e, e2] X.env = (false, eval e X.env) :: starEach [e2] X.env := by rfl) (hpl : (backTo pos (starEach [e2] X.env)).any (·.1) = false := by rfl) :
    PI X (.Tuple elts kk tpos) (.Call (.Name "zip" p) [e, e2] [] pos) (iZz X.K ta) := by
  refine ⟨fun pins s σ H R I h => ?_⟩
  refine Call_ (ld_blt I hg hm PyProof.Rows.boot_zip (PyProof.Rows.callWith_type1 (thn (ha.run pos pins s σ H _ I h) fun us s1 ⟨vs, H1, I1, r1, q1⟩ => ?_) hs hpl))
  obtain ⟨a, b, xs, ys, ex, ea, eb, q⟩ := q1
  subst ex
  cases r1 with
  | @cons _ u _ _ r rr =>
    cases rr with
    | @cons _ u2 _ _ r' rr =>
      cases rr
      obtain ⟨o1, H1q, t1, B1, h1, k1, la⟩ := sr_begin I1 ea r
      obtain ⟨o2, H2q, t2, B2, h2, k2, lb⟩ := sr_begin I1 eb r'
      refine zip_begins2 B1 B2 h1 h2 fun h' hz hTI hTO g1 g2 hsz hk => wpAny_pyIter_zip hz ?_
      have I2 : Inv X pins σ H1 { s1 with heap := h' } := I1.kept (t' := s1.toks) hk
      generalize hN : s1.heap.objs.size = N at *
      have D : ZA (N + 4) (N + 2) (N + 3) N (N + 1) a b := ⟨by simp, by simp, by simp, by simp, by simp, by simp, by simp, by simp, by simp, by simp,
        fun c e => by have := la c e; exact ⟨by intro z; subst z; exact absurd this (by simp), by intro z; subst z; exact absurd this (by simp), by intro z; subst z; exact absurd this (by simp), by intro z; subst z; exact absurd this (by simp)⟩,
        fun c e => by have := lb c e; exact ⟨by intro z; subst z; exact absurd this (by simp), by intro z; subst z; exact absurd this (by simp), by intro z; subst z; exact absurd this (by simp), by intro z; subst z; exact absurd this (by simp)⟩⟩
      refine ⟨N + 4, [N + 4, N + 2, N + 3, N, N + 1], _, _, H1, rfl, I2, turn_zz (t1 := t1) (t2 := t2) D, ⟨hz, hTI, ⟨_, _, hTO⟩, k1 _ _ g1, k2 _ _ g2⟩, fun c hcm => ?_, q⟩
      have hle : s1.heap.objs.size ≤ c := by
        rw [hN]
        have e' : c = N + 4 ∨ c = N + 2 ∨ c = N + 3 ∨ c = N ∨ c = N + 1 := by simpa using hcm
        rcases e' with rfl | rfl | rfl | rfl | rfl <;> simp
      exact I1.fpOk hle (I1.hok.fresh hle)
/-- as a walk: both stand still -/
theorem walk_zz {K : PySem.W.Frag} {a b : Sr} {xs ys : List V} {n : Nat} (hn : n = min xs.length ys.length) :
    Walk (Itzz K a b) n (fun H => SrI K H a xs ∧ SrI K H b ys) (fun i H v H' => ∃ T x y, v = .ref T ∧ H T = none ∧ H' = L2.upd H T (.tup [x, y]) ∧ xs[i]? = some x ∧ ys[i]? = some y) :=
  ⟨fun i H hi g => ⟨xs, ys, g.1, g.2, by omega, by omega⟩, fun H g => ⟨xs, ys, g.1, g.2, by omega, by omega, by omega⟩, fun i H v H' hi g y => by
    obtain ⟨T, x, y, e1, e2, e3, h1, h2⟩ := y
    exact ⟨T, x, y, e1, e2, e3, h1 _ g.1, h2 _ g.2⟩⟩
end Vf
set_option Elab.async false
set_option linter.all false
set_option maxRecDepth 100000
set_option maxHeartbeats 4000000
/-! what stays where functions are made and cells are shown -/
namespace Vf
open PySem L2 PyProof.Rows NdefX LamX
theorem same_shw {cs : Cs} {H : Hp} (hn : ∀ c o, cs.lookup c = some o → H c = none) : Same H (shw cs H) := fun b u e => by
  cases q : cs.lookup b with
  | some y => rw [hn b y q] at e; cases e
  | none => rw [shw_out q]; exact e
theorem same_hid {cs : Cs} {H1 H2 : Hp} (hn : ∀ c o, cs.lookup c = some o → H1 c = none) (s : Same (shw cs H1) H2) : Same H1 (hid cs H2) := fun b u e => by
  cases q : cs.lookup b with
  | some y => rw [hn b y q] at e; cases e
  | none =>
    rw [hid_out q]
    exact s b u (by rw [shw_out q]; exact e)
theorem held_same {cs : Cs} {H1 H2 : Hp} (s : Same (shw cs H1) H2) : HeldC cs H2 := fun c o e => s _ _ (shw_in e)
theorem same_up {cs : Cs} {H H' : Hp} (hc : HeldC cs H) (s : Same (hid cs H) H') : Same H (shw cs H') := fun b u e => by
  cases q : cs.lookup b with
  | some y =>
    rw [hc b y q] at e
    rw [shw_in q]; exact e
  | none =>
    rw [shw_out q]
    exact s b u (by rw [hid_out q]; exact e)
/-- what is no cell is not hidden -/
theorem hid_keep {cs : Cs} {H : Hp} {b : Addr} {u : HO} (hc : HeldC cs H) (e : H b = some u) (n : ∀ φ, u ≠ .ext φ) : hid cs H b = some u := by
  rw [hid_out (hc.out e fun x z => n _ z)]; exact e
theorem shw_keep {cs : Cs} {H : Hp} {b : Addr} {u : HO} (hn : ∀ c o, cs.lookup c = some o → H c = none) (e : H b = some u) : shw cs H b = some u := same_shw hn _ _ e
theorem hid_shw {cs : Cs} {H : Hp} (hn : ∀ c o, cs.lookup c = some o → H c = none) : hid cs (shw cs H) = H := by
  funext b
  cases q : cs.lookup b with
  | some y => rw [hid_in q, hn b y q]
  | none => rw [hid_out q, shw_out q]
/-- it stays true where all stays but tables -/
def Stab (S : Hp → Prop) : Prop := ∀ H H' : Hp, S H → ExtN H H' → S H'
theorem Stab.same {S : Hp → Prop} (h : Stab S) {H H' : Hp} (s : Same H H') (q : S H) : S H' := h H H' q (ExtN.of fun b o e => s b o e)
theorem Stab.and {S S' : Hp → Prop} (h : Stab S) (h' : Stab S') : Stab fun H => S H ∧ S' H := fun H H' q k => ⟨h H H' q.1 k, h' H H' q.2 k⟩
theorem Stab.hid {S : Hp → Prop} (h : Stab S) (cs : Cs) : Stab fun H => S (Vf.hid cs H) := fun H H' q k => h _ _ q fun b o e n => by
  obtain ⟨q1, q2⟩ := hid_some e
  rw [hid_out q1]; exact k b o q2 n
theorem stab_heldF (f : Addr) (F : NF) (cs : Cs) : Stab (HeldF f F cs) := fun H H' q k => ⟨k _ _ q.fn (fun _ z => nomatch z), k _ _ q.code (fun _ z => nomatch z), fun c o e => k _ _ (q.cells c o e) (fun _ z => nomatch z)⟩
theorem stab_heldL (f : Addr) (F : NF) (e : Expr) (cs : Cs) : Stab (HeldL f F e cs) := fun H H' q k => ⟨k _ _ q.fn (fun _ z => nomatch z), k _ _ q.code (fun _ z => nomatch z), fun c o e => k _ _ (q.cells c o e) (fun _ z => nomatch z)⟩
theorem stab_true : Stab fun _ => True := fun _ _ _ _ => trivial
theorem stab_at (a : Addr) (o : HO) (n : ∀ ps, o ≠ .tbl ps) : Stab fun H => H a = some o := fun H H' q k => k a o q n
/-- all stays but the tables of code objects, and these stay tables -/
structure SameT (T : List NTab) (H H' : Hp) : Prop where
  ext : ExtN H H'
  back : ∀ b, H' b = none → H b = none
  tab : TabsN T H'
theorem SameT.of {T : List NTab} {H H' : Hp} (s : Same H H') (t : TabsN T H) : SameT T H H' := ⟨fun b o e _ => s b o e, fun b e => s.free e, t.ext fun b o e => s b o e⟩
theorem SameT.trans {T : List NTab} {H H1 H2 : Hp} (a : SameT T H H1) (b : SameT T H1 H2) : SameT T H H2 := ⟨a.ext.trans b.ext, fun c e => a.back c (b.back c e), b.tab⟩
theorem SameT.stab {T : List NTab} {H H' : Hp} {S : Hp → Prop} (s : SameT T H H') (h : Stab S) (q : S H) : S H' := h H H' q s.ext
theorem SameT.at_ {T : List NTab} {H H' : Hp} {κ : Type} [DecidableEq κ] {kd : Kd κ} {v : V} {k : κ} (s : SameT T H H') (h : kd.at_ H v k) : kd.at_ H' v k := kd.keep h fun b xs e => s.ext _ _ e fun _ z => nomatch z
theorem SameT.kl {T : List NTab} {H H' : Hp} (s : SameT T H H') : Kl H H' := fun b o e d => s.ext b o e fun ps z => by rw [z] at d; exact d
theorem kd_hid {κ : Type} [DecidableEq κ] {kd : Kd κ} {cs : Cs} {H : Hp} {v : V} {k : κ} (hc : HeldC cs H) (h : kd.at_ H v k) : kd.at_ (hid cs H) v k := kd.keep h fun b xs e => hid_keep hc e fun _ z => nomatch z
theorem kd_shw {κ : Type} [DecidableEq κ] {kd : Kd κ} {cs : Cs} {H : Hp} {v : V} {k : κ} (hn : ∀ c o, cs.lookup c = some o → H c = none) (h : kd.at_ H v k) : kd.at_ (shw cs H) v k := kd.keep h fun b xs e => shw_keep hn e
/-- a cell is no code object -/
theorem cellX_code {c : Addr} {o : Obj} {q : Str} {v : Option Value} (hd : o.data = .cell v) : CellX c o ≠ CodeO c q := fun z => by
  unfold CellX CodeO at z
  have z2 := HO.ext.inj z
  have e : ({ objs := Array.replicate (c + 1) o } : Heap).get? c = some o := by
    unfold Heap.get?
    have : (Array.replicate (c + 1) o)[c]? = some o := by simp
    rw [this]
    obtain ⟨a, b, d, sl⟩ := o
    have hd : d = .cell v := hd
    subst hd
    rfl
  have h1 := congrFun z2 ({ objs := Array.replicate (c + 1) o } : Heap)
  have h2 : ∃ (oc : Obj) (vs : Array Value) (t : Tok), ({ objs := Array.replicate (c + 1) o } : Heap).get? c = some oc ∧ oc.data = .fields vs ∧ vs[1]? = some (.str q t) := by
    rw [← h1]; exact e
  obtain ⟨oc, vs, t, a1, a2, a3⟩ := h2
  rw [e] at a1
  cases a1
  rw [hd] at a2
  cases a2
def CellsData (cs : Cs) : Prop := ∀ c o, cs.lookup c = some o → ∃ v, o.data = .cell v
theorem CapX.data {X : Cx} {σ : L2.St} {cs : Cs} (h : CapX X σ cs) : CellsData cs := fun c o e => (h.dom c o e).1
theorem tabs_hid {T : List NTab} {cs : Cs} {H : Hp} (hd : CellsData cs) (hc : HeldC cs H) (t : TabsN T H) : TabsN T (hid cs H) := fun p hp => by
  obtain ⟨ps, h1, h2, h3⟩ := t p hp
  refine ⟨ps, hid_keep hc h1 (fun _ z => nomatch z), h2, fun pos cv e => ?_⟩
  obtain ⟨c, e1, e2⟩ := h3 pos cv e
  refine ⟨c, e1, ?_⟩
  cases q : cs.lookup c with
  | none => rw [hid_out q]; exact e2
  | some o =>
    obtain ⟨v, hv⟩ := hd c o q
    rw [hc c o q] at e2
    exact absurd (Option.some.inj e2) (cellX_code hv)
theorem sameT_hid {T : List NTab} {cs : Cs} {H1 H2 : Hp} (hd : CellsData cs) (hn : ∀ c o, cs.lookup c = some o → H1 c = none) (s : SameT T (shw cs H1) H2) : HeldC cs H2 ∧ SameT T H1 (hid cs H2) := by
  have hh : HeldC cs H2 := fun c o e => s.ext _ _ (shw_in e) fun _ z => nomatch z
  refine ⟨hh, fun b u e n => ?_, fun b e => ?_, tabs_hid hd hh s.tab⟩
  · cases q : cs.lookup b with
    | some y => rw [hn b y q] at e; cases e
    | none =>
      rw [hid_out q]
      exact s.ext b u (by rw [shw_out q]; exact e) n
  · cases q : cs.lookup b with
    | some y => exact hn b y q
    | none =>
      rw [hid_out q] at e
      have := s.back b e
      rw [shw_out q] at this
      exact this
theorem kl_hid {cs : Cs} {H : Hp} (hc : HeldC cs H) : Kl H (hid cs H) := fun b o e d => hid_keep hc e fun φ z => by rw [z] at d; exact d
/-- all that the nested one captures are cells of the def -/
def cellsB (sc nsc : Scope) : Bool := nsc.names.all fun y => !decide (y.2 = .free) || decide (sc.names.lookup y.1 = some .cell)
theorem cells_free {sc nsc : Scope} (h : cellsB sc nsc = true) : ∀ y ∈ nsc.names, y.2 = .free → sc.names.lookup y.1 = some .cell := fun y hy e => by
  have := List.all_eq_true.mp h y hy
  rw [e] at this
  simpa using this
theorem tup_hid {cs : Cs} {H : Hp} {b : Addr} {xs : List V} (hc : HeldC cs H) (e : H b = some (.tup xs)) : hid cs H b = some (.tup xs) := hid_keep hc e fun _ z => nomatch z
theorem lst_hid {cs : Cs} {H : Hp} {b : Addr} {xs : List V} (hc : HeldC cs H) (e : H b = some (.lst xs)) : hid cs H b = some (.lst xs) := hid_keep hc e fun _ z => nomatch z
def Forall2 {α β : Type} (R : α → β → Prop) (xs : List α) (ys : List β) : Prop := xs.length = ys.length ∧ ∀ (i : Nat) (x : α) (y : β), xs[i]? = some x → ys[i]? = some y → R x y
theorem Forall2.snoc {α β : Type} {R : α → β → Prop} {xs : List α} {ys : List β} {x : α} {y : β} (h : Forall2 R xs ys) (g : R x y) : Forall2 R (xs ++ [x]) (ys ++ [y]) := by
  obtain ⟨h1, h2⟩ := h
  refine ⟨by simp [h1], fun i a b e1 e2 => ?_⟩
  by_cases hi : i < xs.length
  · rw [List.getElem?_append_left hi] at e1
    rw [List.getElem?_append_left (by omega)] at e2
    exact h2 i a b e1 e2
  · rw [List.getElem?_append_right (by omega)] at e1
    rw [List.getElem?_append_right (by omega)] at e2
    have : i - xs.length = 0 := by
      cases q : i - xs.length with
      | zero => rfl
      | succ n => rw [q] at e1; cases e1
    rw [this] at e1
    have h3 : i - ys.length = 0 := by omega
    rw [h3] at e2
    cases e1; cases e2
    exact g
theorem Forall2.imp {α β : Type} {R S : α → β → Prop} {xs : List α} {ys : List β} (h : Forall2 R xs ys) (g : ∀ x y, x ∈ xs → R x y → S x y) : Forall2 S xs ys := ⟨h.1, fun i x y e1 e2 => g x y (List.mem_of_getElem? e1) (h.2 i x y e1 e2)⟩
theorem Forall2.get {α β : Type} {R : α → β → Prop} {xs : List α} {ys : List β} (h : Forall2 R xs ys) {i : Nat} {y : β} (e : ys[i]? = some y) : ∃ x, xs[i]? = some x ∧ R x y := by
  have hi : i < xs.length := by rw [h.1]; exact (List.getElem?_eq_some_iff.mp e).1
  exact ⟨_, List.getElem?_eq_getElem hi, h.2 i _ y (List.getElem?_eq_getElem hi) e⟩
end Vf
set_option Elab.async false
set_option linter.all false
set_option maxRecDepth 100000
set_option maxHeartbeats 4000000
/-! walks of a column over a code's rows -/
namespace Vf
open PySem L2 PyProof.Rows
theorem take_more {α : Type} {l : List α} {i : Nat} (h : i < l.length) : l.take (i + 1) = l.take i ++ [l[i]] := by
  rw [List.take_add_one, List.getElem?_eq_getElem h]; rfl
/-- what a column leaves: the state and the bits, by the rows -/
def stepR (rs : List Row) (z : List Nat) (s : Int × Int) (c : Nat) : Int × Int :=
  let gb := ((rs.getD s.1.toNat []).getD (z.idxOf c) (0, 0))
  (gb.1, s.2 + gb.2)
def walkR (rs : List Row) (z : List Nat) (s : Int) (y : List Nat) : Int × Int := y.foldl (stepR rs z) (s, 0)
theorem walkR_more {rs : List Row} {z y : List Nat} {s : Int} {i : Nat} (h : i < y.length) : walkR rs z s (y.take (i + 1)) = stepR rs z (walkR rs z s (y.take i)) y[i] := by
  unfold walkR
  rw [take_more h, List.foldl_append]
  rfl
/-- states stay states, bits grow -/
structure GoodS (m : Nat) (rs : List Row) : Prop where
  row : ∀ r ∈ rs, r.length = m ∧ ∀ gb ∈ r, 0 ≤ gb.1 ∧ gb.1 < rs.length
theorem Good.s {m : Nat} {rs : List Row} {es : List Int} (g : Good m rs es) : GoodS m rs := ⟨fun r hr => ⟨(g.row r hr).1, fun gb h => ⟨((g.row r hr).2 gb h).1, ((g.row r hr).2 gb h).2.1⟩⟩⟩
theorem at_row {m : Nat} {rs : List Row} (g : GoodS m rs) {s : Int} {j : Nat} (h0 : 0 ≤ s) (h1 : s < rs.length) (hj : j < m) :
    ∃ (h : s.toNat < rs.length) (h' : j < rs[s.toNat].length), (rs.getD s.toNat []).getD j (0, 0) = rs[s.toNat][j] ∧ 0 ≤ (rs[s.toNat][j]).1 ∧ (rs[s.toNat][j]).1 < rs.length := by
  have h : s.toNat < rs.length := by omega
  have hr := g.row rs[s.toNat] (List.getElem_mem h)
  have h' : j < rs[s.toNat].length := by rw [hr.1]; exact hj
  refine ⟨h, h', ?_, hr.2 _ (List.getElem_mem h')⟩
  rw [List.getD_eq_getElem?_getD, List.getD_eq_getElem?_getD, List.getElem?_eq_getElem h, Option.getD_some, List.getElem?_eq_getElem h', Option.getD_some]
theorem idx_lt {z : List Nat} {c : Nat} (h : c ∈ z) : z.idxOf c < z.length := List.idxOf_lt_length_iff.mpr h
theorem walkR_ok {m : Nat} {rs : List Row} {z y : List Nat} {s : Int} (g : GoodS m rs) (hz : z.length = m) (h0 : 0 ≤ s) (h1 : s < rs.length) (hy : ∀ c ∈ y, c ∈ z) : ∀ i, i ≤ y.length → 0 ≤ (walkR rs z s (y.take i)).1 ∧ (walkR rs z s (y.take i)).1 < rs.length
  | 0, _ => by rw [List.take_zero]; exact ⟨h0, h1⟩
  | i + 1, hi => by
    have ih := walkR_ok (y := y) g hz h0 h1 hy i (by omega)
    have hi' : i < y.length := by omega
    rw [walkR_more hi']
    have hc : z.idxOf y[i] < m := by rw [← hz]; exact idx_lt (hy _ (List.getElem_mem hi'))
    obtain ⟨h, h', e, a, b⟩ := at_row g ih.1 ih.2 hc
    unfold stepR
    simp only [e]
    exact ⟨a, b⟩
/-- a column's length, by the rows and the ends -/
def lenR (rs : List Row) (es : List Int) (z : List Nat) (y : List Nat) : Int := (walkR rs z 0 y).2 + es.getD (walkR rs z 0 y).1.toNat 0
end Vf
set_option Elab.async false
set_option linter.all false
set_option maxRecDepth 100000
set_option maxHeartbeats 4000000
namespace Vf
open PySem L2 PyProof.Rows
section
variable {P : Program} {w : World} {K : PySem.W.Frag} {mg : Str → Option Value} {base : Heap}
structure TxtN (K : PySem.W.Frag) (mg : Str → Option Value) : Prop where
  enumerate : mg "enumerate" = none
/-- the first place of a sign of y that is none of z's -/
def strange (z y : Str) : Option Nat := (TL.tl y).findIdx? fun c => decide (c ∉ TL.tl z)
def spStrange : Sp := fun vs H Q _ => ∃ z y : Str, vs = [.str z, .str y] ∧ ∀ H', Same H H' → Q (match strange z y with | none => .non | some i => .int i) H'
abbrev s_strange_place : Stmt := top 7
abbrev N_strange_place : List Str := ["letters", "text", "place", "letter"]
abbrev P_strange_place : List Str := ["letters", "text"]
theorem sc_strange_place : FnScope N_strange_place P_strange_place (defScope s_strange_place) := ⟨rfl, rfl, rfl, by decide +kernel, rfl, by decide +kernel, by decide +kernel⟩

theorem ok_strange {f : Addr} {fd : FuncData} (F : Fun K "strange_place" "strange_place" s_strange_place f fd) (T : TxtN K mg) : FnOk P w K mg base CX0 1 f fd P_strange_place spStrange := by
  refine F.ok sc_strange_place (fun vs H Q E h => ?_) (fun cdv A outer s H vs Q E hr h => ?_)
  · obtain ⟨z, y, rfl, _⟩ := h
    rfl
  · obtain ⟨z, y, rfl, k⟩ := h
    refine ⟨_, (pss_cons (ps_for PassesOwn.never rfl (pi_enumS (by rfl) T.enumerate (pa_cons (pv 1) pa_nil)) (pg_tup (by rfl) (pgs_cons (pg_name (i := 2) sc_strange_place.nd rfl (Or.inl rfl)) (pgs_cons (pg_name (i := 3) sc_strange_place.nd rfl (Or.inl rfl)) pgs_nil))) (pss_one (ps_if (pt_cmpR op_notIn_sign (pv 3) (pv 0) (by rfl)) (pss_one (ps_ret (pv 2))) pss_nil)))
      (pss_one (ps_ret pe_non))), ?_⟩
    refine ⟨_, rfl, y, rfl, for_it walk_enumS (fun i σ H1 => ∃ v2 v3 : Option V, σ = [some (.str z), some (.str y), v2, v3] ∧ Same H H1 ∧ ∀ j c, j < i → (TL.tl y)[j]? = some c → c ∈ TL.tl z)
      ⟨none, none, rfl, Same.refl H, fun j c h => absurd h (Nat.not_lt_zero _)⟩ (fun _ _ _ _ _ => trivial) ?_ ?_⟩
    · rintro i x σ H1 H2 hi ⟨v2, v3, rfl, s1, hj⟩ ⟨q, c, rfl, hq, rfl, hc⟩
      refine ⟨q, _, rfl, SqT.of upd_same, rfl, _, _, rfl, _, _, rfl, rfl, _, rfl, _, rfl, c, z, rfl, rfl, _, rfl, ite2 (fun h1 => ?_) (fun h1 => ?_)⟩
      · have h1 : c ∉ TL.tl z := by simpa using h1
        refine ⟨_, rfl, ?_⟩
        have e : strange z y = some i := by
          obtain ⟨hlt, he⟩ := List.getElem?_eq_some_iff.mp hc
          refine List.findIdx?_eq_some_iff_getElem.mpr ⟨hlt, by simp [he, h1], fun j hji => ?_⟩
          have := hj j _ hji (List.getElem?_eq_getElem (by omega))
          simpa using this
        have := k _ (s1.trans (same_new (o := .tup [.int (i : Nat), .str (sg c)]) hq))
        rw [e] at this
        exact this
      · have h1 : c ∈ TL.tl z := by simpa using h1
        refine ⟨_, _, rfl, s1.trans (same_new hq), fun j d h2 h3 => ?_⟩
        by_cases e : j = i
        · rw [e, hc] at h3
          rw [← Option.some.inj h3]; exact h1
        · exact hj j d (by omega) h3
    · rintro σ H1 ⟨v2, v3, rfl, s1, hj⟩
      have e : strange z y = none := by
        refine List.findIdx?_eq_none_iff.mpr fun c hc => ?_
        obtain ⟨j, hlt, he⟩ := List.getElem_of_mem hc
        have := hj j c (by rw [TL.len_tl]; exact hlt) (by rw [List.getElem?_eq_getElem hlt, he])
        simp [this]
      have := k _ s1
      rw [e] at this
      exact this
end
end Vf
set_option Elab.async false
set_option linter.all false
set_option maxRecDepth 100000
set_option maxHeartbeats 4000000
/-! equal data of codes -/
namespace Vf
open PySem L2 PyProof.Rows
theorem eqvAll_inj {α : Type} [DecidableEq α] {f : α → PyData} (h : ∀ x y, PyData.eqv (f x) (f y) = decide (x = y)) : ∀ xs ys : List α, PyData.eqvAll (xs.map f) (ys.map f) = decide (xs = ys)
  | [], [] => by simp [PyData.eqvAll]
  | [], _ :: _ => by simp [PyData.eqvAll]
  | _ :: _, [] => by simp [PyData.eqvAll]
  | x :: r, y :: t => by
    simp only [List.map_cons, PyData.eqvAll, h, eqvAll_inj h r t]
    rw [Bool.eq_iff_iff]
    simp
theorem eqv_int (x y : Int) : PyData.eqv (.int x) (.int y) = decide (x = y) := by
  rw [Bool.eq_iff_iff]; simp [PyData.eqv]
theorem eqv_tupD (x y : Int × Int) : PyData.eqv (tupD x) (tupD y) = decide (x = y) := by
  obtain ⟨a, b⟩ := x
  obtain ⟨c, d⟩ := y
  rw [Bool.eq_iff_iff]
  simp [tupD, PyData.eqv, PyData.eqvAll]
theorem eqv_rowT (x y : Row) : PyData.eqv (rowT x) (rowT y) = decide (x = y) := by
  show PyData.eqv (.tuple (x.map tupD)) (.tuple (y.map tupD)) = _
  rw [PyData.eqv]; exact eqvAll_inj eqv_tupD x y
theorem eqv_rowD (x y : Row) : PyData.eqv (rowD x) (rowD y) = decide (x = y) := by
  show PyData.eqv (.list (x.map tupD)) (.list (y.map tupD)) = _
  rw [PyData.eqv]; exact eqvAll_inj eqv_tupD x y
theorem eqv_rowsT (x y : List Row) : PyData.eqv (rowsT x) (rowsT y) = decide (x = y) := by
  show PyData.eqv (.tuple (x.map rowT)) (.tuple (y.map rowT)) = _
  rw [PyData.eqv]; exact eqvAll_inj eqv_rowT x y
theorem eqv_rowsD (x y : List Row) : PyData.eqv (rowsD x) (rowsD y) = decide (x = y) := by
  show PyData.eqv (.list (x.map rowD)) (.list (y.map rowD)) = _
  rw [PyData.eqv]; exact eqvAll_inj eqv_rowD x y
theorem eqv_intsT (x y : List Int) : PyData.eqv (intsT x) (intsT y) = decide (x = y) := by
  show PyData.eqv (.tuple (x.map PyData.int)) (.tuple (y.map PyData.int)) = _
  rw [PyData.eqv]; exact eqvAll_inj eqv_int x y
theorem eqv_intsD (x y : List Int) : PyData.eqv (intsD x) (intsD y) = decide (x = y) := by
  show PyData.eqv (.list (x.map PyData.int)) (.list (y.map PyData.int)) = _
  rw [PyData.eqv]; exact eqvAll_inj eqv_int x y
theorem lay_all {α : Type} {f : α → PyData} (h : ∀ x, PyData.canLay0 (f x) = true) : ∀ xs : List α, PyData.canLayAll0 (xs.map f) = true
  | [] => by simp [PyData.canLayAll0]
  | x :: r => by simp [PyData.canLayAll0, h x, lay_all h r]
theorem depth_all {α : Type} {f : α → PyData} {n : Nat} (h : ∀ x, PyData.depth (f x) ≤ n) : ∀ xs : List α, PyData.depthAll (xs.map f) ≤ n
  | [] => by simp [PyData.depthAll]
  | x :: r => by rw [List.map_cons, PyData.depthAll]; exact Nat.max_le.mpr ⟨h x, depth_all h r⟩
theorem lay_tupD (x : Int × Int) : PyData.canLay0 (tupD x) = true := by simp [tupD, PyData.canLay0, PyData.canLayAll0]
theorem dep_tupD (x : Int × Int) : PyData.depth (tupD x) ≤ 1 := by simp [tupD, PyData.depth, PyData.depthAll]
theorem shaped_of {d : PyData} {n : Nat} (h : d.canLay0 = true) (hd : d.depth ≤ n) (hn : n ≤ 64) : SeqAt.shaped d = true := by
  unfold SeqAt.shaped
  rw [h, Bool.true_and]
  exact decide_eq_true (Nat.le_trans hd hn)
theorem lay_rowT (x : Row) : PyData.canLay0 (rowT x) = true := by rw [rowT, PyData.canLay0]; exact lay_all lay_tupD x
theorem lay_rowD (x : Row) : PyData.canLay0 (rowD x) = true := by rw [rowD, PyData.canLay0]; exact lay_all lay_tupD x
theorem dep_rowT (x : Row) : PyData.depth (rowT x) ≤ 2 := by rw [rowT, PyData.depth]; have := depth_all dep_tupD x; omega
theorem dep_rowD (x : Row) : PyData.depth (rowD x) ≤ 2 := by rw [rowD, PyData.depth]; have := depth_all dep_tupD x; omega
theorem lay_rowsT (x : List Row) : PyData.canLay0 (rowsT x) = true := by rw [rowsT, PyData.canLay0]; exact lay_all lay_rowT x
theorem lay_rowsD (x : List Row) : PyData.canLay0 (rowsD x) = true := by rw [rowsD, PyData.canLay0]; exact lay_all lay_rowD x
theorem dep_rowsT (x : List Row) : PyData.depth (rowsT x) ≤ 3 := by rw [rowsT, PyData.depth]; have := depth_all dep_rowT x; omega
theorem dep_rowsD (x : List Row) : PyData.depth (rowsD x) ≤ 3 := by rw [rowsD, PyData.depth]; have := depth_all dep_rowD x; omega
theorem lay_int (x : Int) : PyData.canLay0 (.int x) = true := by simp [PyData.canLay0]
theorem dep_int (x : Int) : PyData.depth (.int x) ≤ 0 := by simp [PyData.depth]
theorem lay_intsT (x : List Int) : PyData.canLay0 (intsT x) = true := by rw [intsT, PyData.canLay0]; exact lay_all lay_int x
theorem lay_intsD (x : List Int) : PyData.canLay0 (intsD x) = true := by rw [intsD, PyData.canLay0]; exact lay_all lay_int x
theorem dep_intsT (x : List Int) : PyData.depth (intsT x) ≤ 1 := by rw [intsT, PyData.depth]; have := depth_all dep_int x; omega
theorem dep_intsD (x : List Int) : PyData.depth (intsD x) ≤ 1 := by rw [intsD, PyData.depth]; have := depth_all dep_int x; omega
theorem shaped_rowsT (x : List Row) : SeqAt.shaped (rowsT x) = true := shaped_of (lay_rowsT x) (dep_rowsT x) (by decide)
theorem shaped_rowsD (x : List Row) : SeqAt.shaped (rowsD x) = true := shaped_of (lay_rowsD x) (dep_rowsD x) (by decide)
theorem shaped_intsT (x : List Int) : SeqAt.shaped (intsT x) = true := shaped_of (lay_intsT x) (dep_intsT x) (by decide)
theorem shaped_intsD (x : List Int) : SeqAt.shaped (intsD x) = true := shaped_of (lay_intsD x) (dep_intsD x) (by decide)
end Vf
set_option Elab.async false
set_option linter.all false
set_option maxRecDepth 100000
set_option maxHeartbeats 4000000
/-! sets of keys of one kind, made out of a text or a list, counted, sorted -/
namespace Vf
open PySem PySem.Spec L2 PyProof.Rows
/-- keys of one kind, with their values -/
structure SK (P : Program) (w : World) (κ : Type) [DecidableEq κ] where
  knd : PySem.KeyKind P w κ
  val : κ → Tok → Value
  key : Value → κ
  isv : ∀ k t, knd.is k (val k t) = true
  kv : ∀ k t, key (val k t) = k
  scn : ∀ k t, (val k t).scannable = true
section
variable {P : Program} {w : World} {κ : Type} [DecidableEq κ] (T : SK P w κ)
def SK.good (e : Int × Value) : Prop := ∃ k t, e.2 = T.val k t ∧ e.1 = T.knd.hash k
def SK.keys (es : Array (Int × Value)) : List κ := es.toList.map fun e => T.key e.2
/-- what the payload of a set says: S its members, n their number -/
structure SK.Pay (S : κ → Bool) (n : Nat) (es : Array (Int × Value)) (t : SetTable) : Prop where
  good : ∀ e ∈ es.toList, T.good e
  nd : (T.keys es).Nodup
  mem : ∀ k, S k = true ↔ k ∈ T.keys es
  bd : es.size < scanBound
  fit : t.fits es.size = true
  len : es.size = n
  ris : Ris t.place.toList
  led : w.params.followText "set-order" = true ∨ t.led = true
def SK.At (h : Heap) (a : Addr) (S : κ → Bool) (n : Nat) : Prop := ∃ o es ep t, h.get? a = some o ∧ o.ExactSet ∧ o.data = .set es ep t ∧ T.Pay S n es t
variable {T}
theorem SK.At.mv {h h' : Heap} {a : Addr} {S : κ → Bool} {n : Nat} (x : T.At h a S n) (k : ∀ o, h.get? a = some o → h'.get? a = some o) : T.At h' a S n := by
  obtain ⟨o, es, ep, t, e, r⟩ := x
  exact ⟨o, es, ep, t, k o e, r⟩
theorem SK.At.cg {h : Heap} {a : Addr} {S S' : κ → Bool} {n : Nat} (x : T.At h a S n) (e : ∀ k, S' k = S k) : T.At h a S' n := by
  rw [show S' = S from funext e]; exact x
theorem SK.asks {e : Int × Value} (g : T.good e) (k : κ) : T.knd.is k e.2 = true ↔ T.key e.2 = k := by
  obtain ⟨x, t, e1, _⟩ := g
  rw [e1, T.kv]
  exact ⟨fun h => T.knd.inj _ x k (T.isv x t) h, fun h => by rw [← h]; exact T.isv x t⟩
theorem SK.Pay.els {S : κ → Bool} {n : Nat} {es : Array (Int × Value)} {t : SetTable} (p : T.Pay S n es t) : ElemsOf T.knd es.toList := fun e he => by
  obtain ⟨k, u, e1, e2⟩ := p.good e he
  exact ⟨⟨k, by rw [e1]; exact T.isv k u, e2⟩, by rw [e1]; exact T.scn k u⟩
theorem SK.Pay.has {S : κ → Bool} {n : Nat} {es : Array (Int × Value)} {t : SetTable} (p : T.Pay S n es t) (k : κ) : S k = true ↔ ∃ e ∈ es.toList, T.knd.is k e.2 = true := by
  rw [p.mem k]
  unfold SK.keys
  rw [List.mem_map]
  exact ⟨fun ⟨e, he, q⟩ => ⟨e, he, (SK.asks (p.good e he) k).mpr q⟩, fun ⟨e, he, q⟩ => ⟨e, he, (SK.asks (p.good e he) k).mp q⟩⟩
/-- the payload with other tables, its entries in another order -/
theorem SK.Pay.perm {S : κ → Bool} {n : Nat} {es es' : Array (Int × Value)} {t t' : SetTable} (p : T.Pay S n es t) (q : es'.toList.Perm es.toList) (hf : t'.fits es'.size = true) (hr : Ris t'.place.toList) (hl : t'.led = t.led) : T.Pay S n es' t' := by
  have hs : es'.size = es.size := by rw [← Array.length_toList, q.length_eq, Array.length_toList]
  have hk : (T.keys es').Perm (T.keys es) := q.map _
  exact ⟨fun e he => p.good e (q.mem_iff.mp he), hk.nodup_iff.mpr p.nd, fun k => (p.mem k).trans hk.mem_iff.symm, by rw [hs]; exact p.bd, hf, hs.trans p.len, hr, p.led.imp id fun z => by rw [hl]; exact z⟩
theorem SK.Pay.plus {S : κ → Bool} {n : Nat} {es es' : Array (Int × Value)} {t t' : SetTable} {k : κ} {u : Tok} (p : T.Pay S n es t) (hS : S k = false) (q : es'.toList.Perm (es.toList ++ [(T.knd.hash k, T.val k u)])) (hb : n + 1 < scanBound) (hf : t'.fits es'.size = true) (hr : Ris t'.place.toList) (hl : t'.led = t.led) :
    T.Pay (fun j => S j || decide (j = k)) (n + 1) es' t' := by
  have q1 := q.trans (List.perm_append_singleton _ _)
  have hk : (T.keys es').Perm (k :: T.keys es) := by
    have := q1.map fun e => T.key e.2
    rw [List.map_cons, T.kv] at this
    exact this
  have hs : es'.size = n + 1 := by rw [← Array.length_toList, q1.length_eq, List.length_cons, Array.length_toList, p.len]
  refine ⟨fun e he => ?_, hk.nodup_iff.mpr (List.nodup_cons.mpr ⟨fun z => ?_, p.nd⟩), fun j => ?_, by rw [hs]; exact hb, hf, hs, hr, p.led.imp id fun z => by rw [hl]; exact z⟩
  · rcases List.mem_cons.mp (q1.mem_iff.mp he) with z | z
    · exact ⟨k, u, by rw [z], by rw [z]⟩
    · exact p.good e z
  · rw [(p.mem k).mpr z] at hS; cases hS
  · rw [hk.mem_iff, List.mem_cons, ← p.mem j, Bool.or_eq_true, decide_eq_true_eq]
    exact Or.comm
theorem SK.Pay.dup {S : κ → Bool} {n : Nat} {es : Array (Int × Value)} {t : SetTable} {k : κ} (p : T.Pay S n es t) (hS : S k = true) : T.Pay (fun j => S j || decide (j = k)) n es t :=
  ⟨p.good, p.nd, fun j => (show (S j || decide (j = k)) = true ↔ S j = true from ⟨fun z => by
      rw [Bool.or_eq_true, decide_eq_true_eq] at z
      exact z.elim id fun e => by rw [e]; exact hS, fun z => by rw [z]; rfl⟩).trans (p.mem j), p.bd, p.fit, p.len, p.ris, p.led⟩
end
section
variable {P : Program} {w : World} {κ : Type} [DecidableEq κ] {T : SK P w κ} {A : Around} {E : Value → Shared → Prop} {s : Shared} {a : Addr} {S : κ → Bool} {n : Nat}
theorem SK.tail {g : Bool → Sem Unit} (hg : ∀ (b : Bool) (s1 : Shared) (Q1 : Unit → Shared → Prop), Q1 () s1 → wpAny (model P w) A (g b) Q1 E s1) {o : Obj} {es : Array (Int × Value)} {ep : Nat} {t : SetTable} (ho : s.heap.get? a = some o) (hx : o.ExactSet) (hd : o.data = .set es ep t)
    {ys : Array (Int × Value)} {t2 : SetTable} (p : T.Pay S n ys t2) {wd : Bool} {R : Option Bool → Shared → Prop} (hR : ∀ h', Heap.SameBut a s.heap h' → T.At h' a S n → R (some true) { s with heap := h' }) :
    wpAny (model P w) A (do
      storeSet a ys t2
      if (!wd && t2.tooFull) = true then do
          g (relayAll t2 ys (SetTable.grown ys.size)).2.2; storeSet a (relayAll t2 ys (SetTable.grown ys.size)).1 (relayAll t2 ys (SetTable.grown ys.size)).2.1; pure (some true)
        else pure (some true)) R E s := by
  have p1 := store_at (es' := ys) (t' := t2) ho hd
  have b1 := Heap.SameBut.update s.heap a (Obj.putSet ys t2)
  refine wpAny_bind (wpAny_storeSet_of ho hd ?_ (fits_of_scanBound p.bd))
  split
  · have q := p.perm (relayAll_perm t2 ys (SetTable.grown ys.size)) (relayAll_fits t2 ys _) (relayAll_ris t2 ys _) (relayAll_led t2 ys _)
    generalize relayAll t2 ys (SetTable.grown ys.size) = Z at q ⊢
    refine wpAny_bind (hg _ _ _ (wpAny_bind (wpAny_storeSet_of p1 rfl ?_ (fits_of_scanBound q.bd))))
    exact wpAny_pure (hR _ (b1.trans (Heap.SameBut.update _ a _)) ⟨_, Z.1, _, Z.2.1, store_at (es' := Z.1) (t' := Z.2.1) p1 rfl, hx, rfl, q⟩)
  · exact wpAny_pure (hR _ b1 ⟨_, ys, _, t2, p1, hx, rfl, p⟩)
theorem SK.add {k : κ} {u : Tok} {Q : Bool → Shared → Prop} (x : T.At s.heap a S n) (room : n + 1 < scanBound)
    (hQ : ∀ h' m, Heap.SameBut a s.heap h' → T.At h' a (fun j => S j || decide (j = k)) m → m ≤ n + 1 → Q (!S k) { s with heap := h' }) : wpAny (model P w) A (setAddHashed a (T.val k u) (T.knd.hash k)) Q E s := by
  obtain ⟨o, es, ep, t, ho, hx, hd, p⟩ := x
  have hgw : ∀ (b : Bool) {s1 : Shared} {Q1 : Unit → Shared → Prop}, Q1 () s1 → wpAny (model P w) A (match b with | true => rule "set.scan.the-table-gave-way" | false => pure ()) Q1 E s1 := fun b _ _ q => match b with
    | true => wpAny_rule q
    | false => wpAny_pure q
  have hsc := T.scn k u
  unfold setAddHashed setAddHashedIn
  refine wpAny_holding (wpAny_bind (wpAny_setState_of ho hd p.fit ?_)); dsimp only
  rw [byScan_of hsc p.bd p.els]; simp only [↓reduceIte]
  unfold setAddByScan
  refine wpAny_bind (wpAny_bind (wpAny_rule (wpAny_bind (wpAny_setScan_of (T.isv k u) ho hd p.fit p.els ?_))))
  cases hfi : List.findIdx? (fun e => T.knd.is k e.2) es.toList with
  | some j =>
    obtain ⟨hj, pj, _⟩ := List.findIdx?_eq_some_iff_getElem.mp hfi
    have hS : S k = true := (p.has k).mpr ⟨_, List.getElem_mem hj, pj⟩
    have := hQ s.heap n (Heap.SameBut.refl a s.heap) ⟨o, es, ep, t, ho, hx, hd, p.dup hS⟩ (Nat.le_succ n)
    rw [hS] at this
    exact wpAny_pure (wpAny_pure this)
  | none =>
    dsimp only
    have hS : S k = false := by
      cases z : S k with
      | false => rfl
      | true =>
        obtain ⟨e, he, q⟩ := (p.has k).mp z
        have := List.findIdx?_eq_none_iff.mp hfi e he
        rw [q] at this; cases this
    have z1 := layNew_perm t es (T.knd.hash k) (T.val k u)
    have z2 := layNew_fits t es (T.knd.hash k) (T.val k u)
    have z3 := layNew_ris t es (T.knd.hash k) (T.val k u) p.ris
    have z4 := layNew_led t es (T.knd.hash k) (T.val k u)
    rw [Array.toList_push] at z1
    generalize layNew t es (T.knd.hash k) (T.val k u) = Z at z1 z2 z3 z4 ⊢
    obtain ⟨ys, t1, wd, gave⟩ := Z
    dsimp only at z1 z2 z3 z4 ⊢
    have py := p.plus hS z1 room z2 z3 z4
    have fin : ∀ h', Heap.SameBut a s.heap h' → T.At h' a (fun j => S j || decide (j = k)) (n + 1) → Q true { s with heap := h' } := fun h' b y => by
      have := hQ h' (n + 1) b y (Nat.le_refl _)
      rw [hS] at this
      exact this
    have hgp : ∀ (b : Bool) (s1 : Shared) (Q1 : Unit → Shared → Prop), Q1 () s1 → wpAny (model P w) A (match b with | true => rule "set.scan.the-table-gave-way" | false => pure ()) Q1 E s1 := fun b _ _ q => hgw b q
    refine wpAny_bind (hgw _ ?_)
    split
    · refine wpAny_bind ?_
      rw [hashByValue_scannable 8 hsc]
      refine wpAny_pure (SK.tail (T := T) ?_ ho hx hd (S := fun j => S j || decide (j = k)) (n := n + 1) ?_ fun h' b y => by dsimp only; exact wpAny_pure (fin h' b y))
      · intro b s1 Q1 q; cases b <;> first | exact wpAny_pure q | exact wpAny_rule q
      · first
          | exact { py with fit := SetTable.fits_plain_off z2 }
          | (split <;> first | exact py | exact { py with fit := SetTable.fits_plain_off z2 })
    · refine wpAny_bind (wpAny_pure ?_)
      simp only [↓reduceIte]
      refine SK.tail (T := T) ?_ ho hx hd (S := fun j => S j || decide (j = k)) (n := n + 1) py fun h' b y => by dsimp only; exact wpAny_pure (fin h' b y)
      intro b s1 Q1 q; cases b <;> first | exact wpAny_pure q | exact wpAny_rule q
end
section
variable {P : Program} {w : World} {κ : Type} [DecidableEq κ] {T : SK P w κ} {A : Around} {E : Value → Shared → Prop}
/-- all that an iterator gives goes into the set -/
theorem SK.loop {I a : Addr} {fp wr : List Addr} {G : Array GenState → Array GenState → Prop} {N : Nat} {Pv : Nat → Value → Prop} {St : Nat → Shared → Prop} {R : Result → Shared → Prop} (W : WalksS P w A.in1 I fp wr G N Pv St) (haf : a ∉ fp) (ks : List κ) (hN : N = ks.length) (hb : ks.length + 1 < scanBound)
    (hv : ∀ i v, Pv i v → ∃ k t, ks[i]? = some k ∧ v = T.val k t) : ∀ (m i : Nat) (s : Shared), N - i = m → i ≤ N → St i s → (∃ c, c ≤ i ∧ T.At s.heap a (fun j => decide (j ∈ ks.take i)) c) →
    (∀ s2 c, Moved (a :: wr) G s s2 → c ≤ N → T.At s2.heap a (fun j => decide (j ∈ ks)) c → R (.ok (.ret .none)) s2) → codeAny (model P w) A (.builtin "set.update.loop" ⟨[.ref a, .ref I], []⟩) R s := by
  have haw : a ∉ wr := fun z => haf (W.sub _ z)
  have hup : ∀ b ∈ wr, b ∈ a :: wr := fun b z => List.mem_cons_of_mem _ z
  intro m
  induction m with
  | zero =>
    rintro i s hm hi hst ⟨c, hc, hS⟩ hR
    obtain rfl : i = N := by omega
    refine codeAny_builtin F.entry_set_update_loop ?_; rw [Around.under_plainId F.plain_set_update_loop _]
    refine (show wpAny _ A.in1 (pyNext (.ref I) >>= _) _ _ s from wpAny_bind (W.done s _ _ hst fun s2 mv => ?_))
    rw [List.take_of_length_le (by omega)] at hS
    exact (show wpAny _ A.in1 (ret Value.none) _ _ s2 from wpAny_pure (hR s2 c (mv.mono hup) hc (hS.mv fun o e => mv.heap a o haw e)))
  | succ m ih =>
    rintro i s hm hi hst ⟨c, hc, hS⟩ hR
    have hlt : i < N := by omega
    refine codeAny_builtin F.entry_set_update_loop ?_; rw [Around.under_plainId F.plain_set_update_loop _]
    refine (show wpAny _ A.in1 (pyNext (.ref I) >>= _) _ _ s from wpAny_bind (W.item i s _ _ hlt hst fun v s2 hP hst2 mv => ?_))
    obtain ⟨k, t, hk, rfl⟩ := hv i v hP
    have hS2 : T.At s2.heap a (fun j => decide (j ∈ ks.take i)) c := hS.mv fun o e => mv.heap a o haw e
    refine (show wpAny _ A.in1 (holding [T.val k t] (setAdd a (T.val k t)) >>= _) _ _ s2 from wpAny_bind (wpAny_holding ?_))
    unfold setAdd
    refine wpAny_holding (wpAny_bind (T.knd.pyHash (k := k) (T.isv k t) (SK.add (s := { s2 with toks := s2.toks + 1 }) hS2 (by omega) fun h' c2 sb hS3 hc2 => ?_)))
    have hS4 : T.At h' a (fun j => decide (j ∈ ks.take (i + 1))) c2 := hS3.cg fun j => by
      rw [List.take_add_one, hk]
      simp [List.mem_append]
    refine wpAny_pure ⟨plainId_quiet F.plain_set_update_loop _, ih (i + 1) _ (by omega) hlt (W.frame _ s2 _ _ hst2 (Nat.le_succ _) fun b z o e => ?_) ⟨c2, by omega, hS4⟩ fun s3 c3 mv3 hc3 hS5 => ?_⟩
    · rw [sb.2 b fun q : b = a => haf (q ▸ z)]; exact e
    · refine hR s3 c3 (Moved.trans W.gtrans ((mv.mono hup).then_heap (Nat.le_succ _) fun b o z e => ?_) mv3) hc3 hS5
      rw [sb.2 b fun q : b = a => z (q ▸ List.mem_cons_self)]; exact e
theorem SK.fresh {h : Heap} {a : Addr} {S : κ → Bool} (e : ∀ k, S k = false) (ho : h.get? a = some { cls := .type "set", dict := none, data := .set #[] 0 (.fresh 0 0 (!w.params.followText "set-order")) }) : T.At h a S 0 :=
  ⟨_, #[], 0, _, ho, ⟨rfl, rfl, rfl⟩, rfl, ⟨(fun e he => by simp at he), List.Pairwise.nil, (fun k => by rw [e k]; exact ⟨(fun z => by cases z), fun z => nomatch z⟩), by decide, by rfl, rfl, List.Pairwise.nil, by
    cases z : w.params.followText "set-order" with
    | false => exact .inr rfl
    | true => exact .inl rfl⟩⟩
end
section
variable {P : Program} {w : World} {A : Around} {E : Value → Shared → Prop} {s : Shared}
def txK (P : Program) (w : World) : SK P w Str := ⟨strKind P w, fun k t => .str k t, fun v => match v with | .str k _ => k | _ => Str.empty, fun k t => by show Value.isStrOf k (.str k t) = true; simp [Value.isStrOf], fun _ _ => rfl, fun _ _ => rfl⟩
def inK (P : Program) (w : World) : SK P w Int := ⟨intKind P w, fun k t => .int k t, fun v => match v with | .int k _ => k | _ => 0, fun k t => intKind_is P w k t, fun _ _ => rfl, fun _ _ => rfl⟩
/-- what a set is filled with -/
def Fill (P : Program) (w : World) {κ : Type} [DecidableEq κ] (T : SK P w κ) (x : Value) (ks : List κ) (h0 : Heap) : Prop := ∀ {A : Around} {E : Value → Shared → Prop} {s : Shared} {a : Addr} {Q : Unit → Shared → Prop}, A.handled = none → (∀ b o, h0.get? b = some o → s.heap.get? b = some o) → h0.get? a = none → T.At s.heap a (fun _ => false) 0 →
  (∀ h' tk c, T.At h' a (fun j => decide (j ∈ ks)) c → c ≤ ks.length → (∀ b o, b ≠ a → s.heap.get? b = some o → h'.get? b = some o) → Q () { s with heap := h', toks := tk }) → wpAny (model P w) A (Builtin.Frozenset.updateFrom "set.__init__" a x) Q E s
theorem fill_end {κ : Type} [DecidableEq κ] {T : SK P w κ} {ks : List κ} {A : Around} {E : Value → Shared → Prop} {s s2 : Shared} {a I : Addr} {Q : Unit → Shared → Prop} {h1 : Heap} {c : Nat} {S0 : κ → Bool} (_ : T.At h1 a S0 0) (k1 : ∀ b o, s.heap.get? b = some o → h1.get? b = some o) (k2 : ∀ b o, b ∉ [a, I] → h1.get? b = some o → s2.heap.get? b = some o) (e1 : s2.gens = s.gens) (e2 : s2.drawn = s.drawn) (e3 : s2.os = s.os)
    (h2 : T.At s2.heap a (fun j => decide (j ∈ ks)) c) (hc : c ≤ ks.length) (hI : ∀ b o, s.heap.get? b = some o → b ≠ I) (hq : ∀ h' tk c, T.At h' a (fun j => decide (j ∈ ks)) c → c ≤ ks.length → (∀ b o, b ≠ a → s.heap.get? b = some o → h'.get? b = some o) → Q () { s with heap := h', toks := tk }) :
    wpAny (model P w) A (pure ()) Q E s2 := by
  obtain ⟨h', g2, d2, tk2, os2⟩ := s2
  subst e1; subst e2; subst e3
  exact wpAny_pure (hq h' tk2 c h2 hc fun b o z e => k2 b o (by simp only [List.mem_cons, List.not_mem_nil, or_false, not_or]; exact ⟨z, hI b o e⟩) (k1 b o e))
theorem fill_text {y : Str} {t : Tok} {h0 : Heap} (hl : y.length + 1 < scanBound) : Fill P w (txK P w) (.str y t) ((TL.tl y).map sg) h0 := by
  intro A E s a Q hh _ _ hS hq
  have hlen : y.cps.size = ((TL.tl y).map sg).length := by rw [List.length_map]; exact TL.len_tl y
  have hlt : a < s.heap.objs.size := by
    obtain ⟨o, _, _, _, e, _⟩ := hS
    exact Heap.lt_size e
  unfold Builtin.Frozenset.updateFrom
  refine wpAny_bind (Fz.anySet ?_)
  rw [if_neg Bool.false_ne_true]
  refine wpAny_bind (wpAny_typeOf (typeIs_str _ _ _) ?_)
  rw [if_neg (by decide)]
  refine wpAny_bind (wpAny_pyIter_str fun o St hW hst => wpAny_bind (wpAny_runValue ?_))
  have hne : a ≠ s.heap.objs.size := Nat.ne_of_lt hlt
  have hS1 : (txK P w).At (s.heap.push o) a (fun j => decide (j ∈ ((TL.tl y).map sg).take 0)) 0 := (hS.mv fun o' e => Heap.get?_push_of_some _ e).cg fun k => by simp
  refine SK.loop (T := txK P w) (hW A.in1 (by simp [hh])).toS (by simpa using hne) ((TL.tl y).map sg) hlen (by rw [← hlen]; exact hl) (fun i v hv => ?_) _ 0 { s with heap := s.heap.push o } rfl (Nat.zero_le _) hst ⟨0, Nat.le_refl 0, hS1⟩ fun s2 c mv hc h2 => ?_
  · obtain ⟨c, u, h1, rfl⟩ := hv
    refine ⟨sg c, u, ?_, rfl⟩
    rw [List.getElem?_map, show (TL.tl y)[i]? = some c from by rw [← h1]; exact Array.getElem?_toList]
    rfl
  · exact fill_end hS1 (fun b o' e => Heap.get?_push_of_some _ e) (fun b o' e => mv.heap b o' e) mv.gens mv.drawn mv.os h2 (by rw [← hlen]; exact hc) (fun b o' e => Nat.ne_of_lt (Heap.lt_size e)) hq
theorem anySetL {l : Addr} {Q : Bool → Shared → Prop} (hT : s.TypeIs (.ref l) "list") (h : Q false s) : wpAny (model P w) A (Builtin.Frozenset.isAnySet (.ref l)) Q E s := by
  unfold Builtin.Frozenset.isAnySet orM
  refine wpAny_bind (wpAny_isInstance hT PySem.F.sub_list_set ?_)
  exact (show wpAny _ _ (isInstance (.ref l) (.type "frozenset")) _ _ s from wpAny_isInstance hT PySem.F.sub_list_frozenset h)
theorem fill_list {κ : Type} [DecidableEq κ] {T : SK P w κ} {l : Addr} {items : Array Value} {ks : List κ} {h0 : Heap} (hl : h0.IsList l items) (hn : items.size = ks.length) (hv : ∀ (i : Nat) (v : Value), items[i]? = some v → ∃ (k : κ) (t : Tok), ks[i]? = some k ∧ v = T.val k t) (hb : ks.length + 1 < scanBound) : Fill P w T (.ref l) ks h0 := by
  intro A E s a Q hh hk ha hS hq
  have hl1 : s.heap.IsList l items := by
    obtain ⟨o, e, r⟩ := hl
    exact ⟨o, hk l o e, r⟩
  have hlt : a < s.heap.objs.size := by
    obtain ⟨o, _, _, _, e, _⟩ := hS
    exact Heap.lt_size e
  have hla : l ≠ a := fun z => by
    obtain ⟨o, e, _⟩ := hl
    rw [z, ha] at e; cases e
  have hll : l < s.heap.objs.size := by
    obtain ⟨o, e, _⟩ := hl1
    exact Heap.lt_size e
  have hT : s.TypeIs (.ref l) "list" := by
    obtain ⟨o, e, c, _⟩ := hl1
    exact ⟨o, e, c⟩
  unfold Builtin.Frozenset.updateFrom
  refine wpAny_bind (anySetL hT ?_)
  rw [if_neg Bool.false_ne_true]
  refine wpAny_bind (wpAny_typeOf hT ?_)
  rw [if_neg (by decide)]
  refine wpAny_bind (wpAny_pyIter_list hl1 (wpAny_bind (wpAny_runValue ?_)))
  have hne : a ≠ s.heap.objs.size := Nat.ne_of_lt hlt
  have hS1 : T.At (s.heap.push { cls := .type "list_iterator", data := .fields #[.ref l, .int 0 0] }) a (fun j => decide (j ∈ ks.take 0)) 0 := (hS.mv fun o' e => Heap.get?_push_of_some _ e).cg fun k => by simp
  refine SK.loop (T := T) (Walks.list (A := A.in1) (by simp [hh]) s.heap.objs.size l (Nat.ne_of_lt hll) items).toS (by simp only [List.mem_cons, List.not_mem_nil, or_false, not_or]; exact ⟨hne, fun z => hla z.symm⟩) ks hn hb hv _ 0 { s with heap := s.heap.push { cls := .type "list_iterator", data := .fields #[.ref l, .int 0 0] } } rfl (Nat.zero_le _) ⟨⟨_, Heap.get?_push_size _ rfl, rfl, rfl⟩, hl1.push _⟩ ⟨0, Nat.le_refl 0, hS1⟩ fun s2 c mv hc h2 => ?_
  exact fill_end hS1 (fun b o' e => Heap.get?_push_of_some _ e) (fun b o' e => mv.heap b o' e) mv.gens mv.drawn mv.os h2 (by rw [← hn]; exact hc) (fun b o' e => Nat.ne_of_lt (Heap.lt_size e)) hq
def emptySet (w : World) : Obj := { cls := .type "set", dict := none, data := .set #[] 0 (.fresh 0 0 (!w.params.followText "set-order")) }
theorem set_of {κ : Type} [DecidableEq κ] {T : SK P w κ} {x : Value} {ks : List κ} {Q : Value → Shared → Prop} (F0 : Fill P w T x ks s.heap) (hh : A.handled = none)
    (h : ∀ h' tk c, T.At h' s.heap.objs.size (fun j => decide (j ∈ ks)) c → c ≤ ks.length → (∀ b o, s.heap.get? b = some o → h'.get? b = some o) → Q (.ref s.heap.objs.size) { s with heap := h', toks := tk }) :
    wpAny (model P w) A (call (.type "set") [x]) Q E s := by
  obtain ⟨c0, tl, hmro⟩ := F.called_set.mro
  have q1 := F.called_set.made
  have q2 := F.called_set.sub
  refine wpAny_call (codeAny_of_tree (show wpAny _ _ (callAny (.type "set") _) _ _ _ from wpAny_pure ⟨Code.quiet_builtin _ (by decide +kernel), codeAny_builtin F.entry_type_call ?_⟩))
  rw [Around.under_plain (weight_type_call_type "set" [x] []) rfl]
  have q3 := F.called_set.notType
  have q4 := F.called_set.canCreate
  have q5 := F.typeCall_set_1 x
  repeat (any_goals (first | assumption | wp_step))
  refine codeAny_mono (code_set_led1 x (E := E) (Q₁ := fun obj s₁ => obj = .ref s.heap.objs.size ∧ s₁ = { s with heap := s.heap.push (emptySet w) }) ⟨rfl, rfl⟩) fun r s₁ hr => ?_
  cases r with
  | error e => exact hr
  | ok fl =>
    cases fl with
    | ret obj =>
      obtain ⟨rfl, rfl⟩ := hr
      have g0 : (s.heap.push (emptySet w)).get? s.heap.objs.size = some (emptySet w) := Heap.get?_push_size _ rfl
      have hT : Shared.TypeIs { s with heap := s.heap.push (emptySet w) } (.ref s.heap.objs.size) "set" := ⟨_, g0, rfl⟩
      have hli := F.called_set.init.lookup
      have hbi := F.called_set.init.bind (.ref s.heap.objs.size)
      repeat (any_goals (first | assumption | wp_step))
      refine codeAny_mono (codeAny_call_builtin (R := wants (fun r s₂ => r = .none ∧ ∃ h' tk c, s₂ = { s with heap := h', toks := tk } ∧ T.At h' s.heap.objs.size (fun j => decide (j ∈ ks)) c ∧ c ≤ ks.length ∧ ∀ b o, s.heap.get? b = some o → h'.get? b = some o) E) F.called_set.init.plain F.entry_set_init (check_set_init_1 hT ?_)) fun r₂ s₂ hr₂ => ?_
      · unfold Builtin.«set.__init__» noKeywords
        generalize hU : Builtin.Frozenset.updateFrom = U
        wp_walk
        subst hU
        refine F0 (by simp [hh]) (fun b o e => Heap.get?_push_of_some _ e) ?_ (SK.fresh (fun _ => rfl) g0) fun h' tk c z1 z2 z3 => ?_
        · cases z : s.heap.get? s.heap.objs.size with
          | none => rfl
          | some o => exact absurd (Heap.lt_size z) (Nat.lt_irrefl _)
        · exact (show wpAny _ _ (ret Value.none) _ _ _ from wpAny_pure ⟨rfl, h', tk, c, rfl, z1, z2, fun b o e => z3 b o (Nat.ne_of_lt (Heap.lt_size e)) (Heap.get?_push_of_some _ e)⟩)
      · cases r₂ with
        | error e => exact hr₂
        | ok fl₂ =>
          cases fl₂ with
          | ret r =>
            obtain ⟨rfl, h', tk, c', rfl, z1, z2, z3⟩ := hr₂
            repeat (any_goals (first | assumption | wp_step))
            exact h _ _ _ z1 z2 z3
          | _ => exact hr₂.elim
    | _ => exact hr.elim
end
end Vf
set_option Elab.async false
set_option linter.all false
set_option maxRecDepth 100000
set_option maxHeartbeats 4000000
/-! sets of texts: as values, counted, sorted; sets of numbers out of lists -/
namespace Vf
open PySem PySem.Spec L2 PyProof.Rows
section
variable {P : Program} {w : World} {A : Around} {E : Value → Shared → Prop} {s : Shared} {a : Addr}
theorem SK.At.num {κ : Type} [DecidableEq κ] {T : SK P w κ} {h : Heap} {S : κ → Bool} {n : Nat} (x : T.At h a S n) : ∀ l : List κ, l.Nodup → (∀ k, k ∈ l ↔ S k = true) → l.length = n := fun l hl hm => by
  obtain ⟨o, es, ep, t, _, _, _, p⟩ := x
  have h1 := (List.perm_ext_iff_of_nodup hl p.nd).mpr fun k => (hm k).trans (p.mem k)
  rw [h1.length_eq, ← p.len]
  unfold SK.keys
  rw [List.length_map, Array.length_toList]
theorem sorted_tx {S : Str → Bool} {n : Nat} {Q : Value → Shared → Prop} (x : (txK P w).At s.heap a S n) (hh : A.handled = none) (h64 : n < 64)
    (hQ : ∀ s2 p (out : Array Value) (c : Nat) (ys : List Str), (∀ b o, s.heap.get? b = some o → s2.heap.get? b = some o) → s2.gens = s.gens → s2.os = s.os → s.heap.objs.size ≤ p → s2.heap.get? p = some (seqObj "list" out c) → StrsAre out.toList ys → sortedS ys = true → ys.Nodup → (∀ k, k ∈ ys ↔ S k = true) → ys.length = n → Q (.ref p) s2) :
    wpAny (model P w) A (call (.builtin "sorted") [.ref a]) Q E s := by
  obtain ⟨o, es, ep, t, ho, hx, hd, p⟩ := x
  refine Calls.call_function_entry kind_sorted plain_sorted entry_sorted (args_sorted1 _) (?_ : wpAny _ _ (Builtin.«sorted» _) _ _ _)
  unfold Builtin.«sorted»
  refine wpAny_bind (m := checkCount "sorted" 1 1 _) (wpAny_pure (wpAny_bind (collect_set (A := A.in1) hh ⟨o, ho, hx.1, hd⟩ p.fit p.bd p.ris p.led fun s1 vs k1 hz g1 o1 pm => ?_)))
  have hl : vs.length = n := by rw [pm.length_eq, List.length_map, Array.length_toList]; exact p.len
  have hstr : ∀ v ∈ vs, ∃ y u, v = Value.str y u := fun v hv => by
    obtain ⟨e, he, q⟩ := List.mem_map.mp (pm.mem_iff.mp hv)
    obtain ⟨k, u, e1, _⟩ := p.good e he
    exact ⟨k, u, q.symm.trans e1⟩
  have hS : StrsAre vs (vs.map strOf) := strsAre_map vs hstr
  have pk : (vs.map strOf).Perm ((txK P w).keys es) := by
    have q := pm.map strOf
    rw [List.map_map] at q
    refine q.trans (List.Perm.of_eq (List.map_congr_left fun e he => ?_))
    obtain ⟨k, u, e1, _⟩ := p.good e he
    show strOf e.2 = (txK P w).key e.2
    rw [e1]
    rfl
  refine wpAny_bind (wpAny_newList ?_ (by rw [hl, sizeLine_eq]; omega))
  have hoL : (s1.heap.push (seqObj "list" vs.toArray 0)).get? s1.heap.objs.size = some (seqObj "list" vs.toArray 0) := Heap.get?_push_size _ rfl
  refine wpAny_bind (wpAny_holding (wpAny_call_entry slot_list_sort ⟨_, hoL, rfl⟩ entry_list_sort (list_sort_treeK strKind_oneLt hoL hS.keysOf (fun v₁ v₂ rest e => keyKind_strs (by rw [← e]; exact hS)) (by rw [hl]; exact h64) fun st2 hp hs => ⟨_, rfl, ?_⟩) (args_list_sort _)))
  obtain ⟨ys, b1, b2, b3⟩ := sorted_out_str hS hp hs
  obtain ⟨c, hc⟩ := sortedHeap_at (vs := vs) (out := (arrOf st2).map (·.2)) hoL
  have pn := b2.trans pk
  refine wpAny_pure ⟨_, rfl, hQ _ s1.heap.objs.size _ c ys (fun b u e => ?_) g1 o1 hz hc b1 b3 (pn.nodup_iff.mpr p.nd) (fun k => by rw [pn.mem_iff, ← p.mem k]) (by rw [pn.length_eq, ← p.len]; unfold SK.keys; rw [List.length_map, Array.length_toList])⟩
  have q := k1 b u e
  have hlt := Heap.lt_size q
  refine (show (sortedHeap (s1.heap.push (seqObj "list" vs.toArray 0)) s1.heap.objs.size vs _).get? b = some u from ?_)
  rw [sortedHeap_old (Nat.ne_of_lt hlt) (by rw [size_push']; exact Nat.lt_succ_of_lt hlt)]
  exact Heap.get?_push_of_some _ q
end
/-- the set of texts at a -/
def TxO (P : Program) (w : World) (a : Addr) (S : Str → Bool) (n : Nat) : HO := .ext fun h => (txK P w).At h a S n
section
variable {X : Cx}
theorem txO_new {P : Program} {w : World} {H : Hp} {h : Heap} {a : Addr} {S : Str → Bool} {n : Nat} (x : (txK P w).At h a S n) : ObjOk P w H h a (TxO P w a S n) := by
  have ⟨o, _, _, _, e, _⟩ := x
  exact ⟨x, ⟨o, e⟩, fun _ _ p k => SK.At.mv p (k)⟩
theorem txO_get {pins : List (Addr × Obj)} {σ : L2.St} {H : Hp} {s : Shared} {a : Addr} {S : Str → Bool} {n : Nat} (I : Inv X pins σ H s) (e : H a = some (TxO X.prog X.w a S n)) : (txK X.prog X.w).At s.heap a S n := (I.hok a _ e).1
/-- set(text), set(list of texts) -/
def rSetT (X : Cx) : List V → Hp → VK → Prop := fun xs H Q => ∃ ks : List Str, ((∃ z : Str, xs = [.str z] ∧ ks = (TL.tl z).map sg) ∨ (∃ l, xs = [.ref l] ∧ SqL X.K H l (ks.map V.str))) ∧ ks.length ≤ 1000 ∧
  ∀ p n, H p = none → (∀ l : List Str, l.Nodup → (∀ k, k ∈ l ↔ k ∈ ks) → l.length = n) → n ≤ ks.length → Q (.ref p) (L2.upd H p (TxO X.prog X.w p (fun j => decide (j ∈ ks)) n))
theorem call_setT (hc : X.calm = true) : CallR X (.type "set") (rSetT X) := by
  intro pins s σ H xs us Q I r h
  obtain ⟨ks, hx, hl, q⟩ := h
  have hb : ks.length + 1 < scanBound := by unfold scanBound; omega
  have fin : ∀ u : Value, us = [u] → Fill X.prog X.w (txK X.prog X.w) u ks s.heap → wpAny (model X.prog X.w) X.A (call (.type "set") us) (EP X pins σ Q) X.xe s := by
    rintro u rfl FF
    refine set_of FF (I.ok.hd hc) fun h' tk c z1 z2 z3 => ?_
    have hp := I.hok.fresh (Nat.le_refl s.heap.objs.size)
    exact ⟨.ref _, L2.upd H s.heap.objs.size (TxO X.prog X.w s.heap.objs.size (fun j => decide (j ∈ ks)) c), I.laid (t' := tk) z3 (Nat.le_refl _) (txO_new z1), rfl, q _ c hp (fun l h1 h2 => z1.num l h1 fun k => by rw [h2 k, decide_eq_true_eq]) z2⟩
  rcases hx with ⟨z, rfl, rfl⟩ | ⟨l, rfl, hs⟩
  · obtain ⟨u, rfl, t, rfl⟩ := vals1 r
    rw [List.length_map, ← TL.len_tl] at hb
    exact fin _ rfl (fill_text hb)
  · obtain ⟨its, rv, pl, _⟩ := I.list hs
    have hlen : its.toArray.size = ks.length := by rw [List.size_toArray, ← rv.length, List.length_map]
    refine fin _ (Vals.ref1 r) (fill_list (T := txK X.prog X.w) pl.isList hlen (fun i v hv => ?_) hb)
    have hv : its[i]? = some v := by rw [← hv]; simp
    have hi : i < ks.length := by rw [← hlen]; exact (Array.getElem?_eq_some_iff.mp (by rw [← hv]; simp : its.toArray[i]? = some v)).1
    obtain ⟨t, e⟩ := SS.strs_at (strsAre_of rv) i v hv
    refine ⟨ks[i], t, List.getElem?_eq_getElem hi, ?_⟩
    rw [e, List.getD_eq_getElem?_getD, List.getElem?_eq_getElem hi]
    rfl
/-- sorted(set of texts) -/
def rSortT (X : Cx) : List V → Hp → VK → Prop := fun xs H Q => ∃ (a : Addr) (S : Str → Bool) (n : Nat), xs = [.ref a] ∧ H a = some (TxO X.prog X.w a S n) ∧ n < 64 ∧
  ∀ (ys : List Str) (p : Addr), sortedS ys = true → ys.Nodup → (∀ k, k ∈ ys ↔ S k = true) → H p = none → Q (.ref p) (L2.upd H p (.lst (ys.map V.str)))
theorem call_sortT (hc : X.calm = true) : CallR X (.builtin "sorted") (rSortT X) := by
  intro pins s σ H xs us Q I r h
  obtain ⟨a, S, n, rfl, ha, h64, q⟩ := h
  rw [Vals.ref1 r]
  refine sorted_tx (txO_get I ha) (I.ok.hd hc) h64 fun s2 p out c ys k g o hp hg b1 b2 b3 b4 b5 => ?_
  have hlen : (ys.map V.str).length ≤ sizeLine := by rw [List.length_map, b5, sizeLine_eq]; omega
  have hn : H p = none := I.hok.fresh hp
  have J : Inv X pins σ (L2.upd H p (.lst (ys.map V.str))) { s with heap := s2.heap, gens := s2.gens, drawn := s2.drawn, toks := s2.toks } := I.call (ch := []) (Un.laid k hp hn) (I.hok.laid k hp ⟨hlen, out.toList, c, vals_of_strs b1, hg⟩) (by rw [g]; exact I.bare) (fun _ z => nomatch z)
  have e : s2 = { s with heap := s2.heap, gens := s2.gens, drawn := s2.drawn, toks := s2.toks } := by
    cases s2; cases s; cases o; rfl
  rw [e]
  exact ⟨.ref p, _, J, rfl, q ys p b2 b3 b4 hn⟩
/-- len(set of texts) -/
def rLenT (X : Cx) : List V → Hp → VK → Prop := fun xs H Q => ∃ (a : Addr) (S : Str → Bool) (n : Nat), xs = [.ref a] ∧ H a = some (TxO X.prog X.w a S n) ∧ Q (.int n) H
theorem call_lenT : CallR X (.builtin "len") (rLenT X) := by
  intro pins s σ H xs us Q I r h
  obtain ⟨a, S, n, rfl, ha, q⟩ := h
  rw [Vals.ref1 r]
  obtain ⟨o, es, ep, t, ho, hx, hd, p⟩ := txO_get I ha
  refine call_len_set ho hx hd p.fit (by have := p.bd; unfold scanBound at this; omega) ⟨.int n, H, I.tok _, ⟨_, by rw [p.len]⟩, q⟩
/-- set(list of numbers): the library's own set of numbers -/
def rSetI (X : Cx) : List V → Hp → VK → Prop := fun xs H Q => ∃ (l : Addr) (ns : List Int), xs = [.ref l] ∧ SqL X.K H l (ns.map V.int) ∧ ns.length ≤ 1000 ∧
  ∀ p n, H p = none → n ≤ ns.length → Q (.ref p) (L2.upd H p (SetO X.w p (fun j => decide (j ∈ ns)) n))
theorem inK_setR {P : Program} {w : World} {h : Heap} {a : Addr} {S : Int → Bool} {n : Nat} (x : (inK P w).At h a S n) : SetR w h a S n := by
  obtain ⟨o, es, ep, t, ho, hx, hd, p⟩ := x
  have hk : (inK P w).keys es = es.toList.map keyOf := List.map_congr_left fun e he => by
    obtain ⟨k, u, e1, _⟩ := p.good e he
    unfold keyOf
    rw [e1]
    rfl
  exact ⟨o, es, ep, t, ho, hx, hd, fun e he => by obtain ⟨k, u, e1, e2⟩ := p.good e he; exact ⟨k, u, e1, e2⟩, by rw [← hk]; exact p.nd, fun k => by rw [← hk]; exact p.mem k, p.bd, p.fit, p.len, p.ris, p.led⟩
theorem call_setI (hc : X.calm = true) : CallR X (.type "set") (rSetI X) := by
  intro pins s σ H xs us Q I r h
  obtain ⟨l, ns, rfl, hs, hl, q⟩ := h
  obtain ⟨its, rv, pl, _⟩ := I.list hs
  rw [Vals.ref1 r]
  have hlen : its.toArray.size = ns.length := by rw [List.size_toArray, ← rv.length, List.length_map]
  refine set_of (fill_list (T := inK X.prog X.w) pl.isList hlen (fun i v hv => ?_) (by unfold scanBound; omega)) (I.ok.hd hc) fun h' tk c z1 z2 z3 => ?_
  · have hv : its[i]? = some v := by rw [← hv]; simp
    have hi : i < ns.length := by rw [← hlen]; exact (Array.getElem?_eq_some_iff.mp (by rw [← hv]; simp : its.toArray[i]? = some v)).1
    obtain ⟨t, e⟩ := PyProof.Rows.IntsAre.int_at (ints_of_vals rv) i v hv
    refine ⟨ns[i], t, List.getElem?_eq_getElem hi, ?_⟩
    rw [e, List.getD_eq_getElem?_getD, List.getElem?_eq_getElem hi]
    rfl
  · exact ⟨.ref _, L2.upd H s.heap.objs.size (SetO X.w s.heap.objs.size (fun j => decide (j ∈ ns)) c), I.laid (t' := tk) z3 (Nat.le_refl _) (setO_new (inK_setR z1)), rfl, q _ c (I.hok.fresh (Nat.le_refl _)) z2⟩
/-- list(text): its signs -/
theorem vals_signs : ∀ (l : List Nat) (us : List Value), us.length = l.length → (∀ (j : Nat) (c : Nat), l[j]? = some c → ∃ u, us[j]? = some (Value.str (sg c) u)) → Vals ((l.map sg).map V.str) us
  | [], [], _, _ => .nil
  | [], _ :: _, h, _ => nomatch h
  | _ :: _, [], h, _ => nomatch h
  | c :: l, v :: us, h, hv => by
    obtain ⟨u, e⟩ := hv 0 c rfl
    exact .cons ⟨u, Option.some.inj e⟩ (vals_signs l us (by simpa using h) fun j d hj => hv (j + 1) d hj)
theorem call_listT (hc : X.calm = true) : CallR X (.type "list") (fun xs H Q => ∃ z : Str, xs = [.str z] ∧ z.length ≤ 1000 ∧ ∀ p, H p = none → Q (.ref p) (L2.upd H p (.lst (((TL.tl z).map sg).map V.str)))) := by
  intro pins s σ H xs us Q I r h
  obtain ⟨z, rfl, hz, q⟩ := h
  obtain ⟨u, rfl, t, rfl⟩ := vals1 r
  have hzs : z.cps.size ≤ sizeLine := by rw [sizeLine_eq]; have : z.cps.size = z.length := rfl; omega
  refine call_list_str (I.ok.hd hc) z t (fun h' tk acc c k e hi => ?_) hzs
  have hlen : acc.toList.length = (TL.tl z).length := by rw [Array.length_toList, hi.1]; exact TL.len_tl z
  have hv : Vals (((TL.tl z).map sg).map V.str) acc.toList := vals_signs _ _ hlen fun j d hj => by
    have hj2 : j < acc.size := by rw [← Array.length_toList, hlen]; exact (List.getElem?_eq_some_iff.mp hj).1
    obtain ⟨d', u, h1, h2⟩ := hi.2 j _ (Array.getElem?_eq_getElem hj2)
    have : (TL.tl z)[j]? = some d' := by rw [← h1]; exact Array.getElem?_toList
    rw [hj] at this
    obtain rfl := Option.some.inj this
    exact ⟨u, by rw [Array.getElem?_toList, Array.getElem?_eq_getElem hj2, h2]; rfl⟩
  have hl2 : (((TL.tl z).map sg).map V.str).length ≤ sizeLine := by rw [List.length_map, List.length_map, ← TL.len_tl]; exact hzs
  exact ⟨.ref _, L2.upd H s.heap.objs.size (.lst (((TL.tl z).map sg).map V.str)), I.laid (t' := tk) k (Nat.le_refl _) ⟨hl2, acc.toList, c, hv, e⟩, rfl, q _ (I.hok.fresh (Nat.le_refl _))⟩
end
end Vf
set_option Elab.async false
set_option linter.all false
set_option maxRecDepth 100000
set_option maxHeartbeats 4000000
/-! rows of numbers as data; what sorted(set(..)) makes of numbers -/
namespace Vf
open PySem L2 PyProof.Rows
def rowsIT (gs : List (List Int)) : PyData := .tuple (gs.map intsT)
def rowsID (gs : List (List Int)) : PyData := .list (gs.map intsD)
theorem eqv_rowsIT (x y : List (List Int)) : PyData.eqv (rowsIT x) (rowsIT y) = decide (x = y) := by
  show PyData.eqv (.tuple (x.map intsT)) (.tuple (y.map intsT)) = _
  rw [PyData.eqv]; exact eqvAll_inj eqv_intsT x y
theorem lay_rowsIT (x : List (List Int)) : PyData.canLay0 (rowsIT x) = true := by rw [rowsIT, PyData.canLay0]; exact lay_all lay_intsT x
theorem dep_rowsIT (x : List (List Int)) : PyData.depth (rowsIT x) ≤ 2 := by rw [rowsIT, PyData.depth]; have := depth_all dep_intsT x; omega
theorem shaped_rowsIT (x : List (List Int)) : SeqAt.shaped (rowsIT x) = true := shaped_of (lay_rowsIT x) (dep_rowsIT x) (by decide)
/-- rows of goals, as lists or as tuples -/
def RwsI (K : PySem.W.Frag) (H : Hp) (R : V) (gs : List (List Int)) : Prop := Dp K H R (rowsID gs) ∨ Dp K H R (rowsIT gs)
theorem RwsI.mv {K : PySem.W.Frag} {H H' : Hp} {R : V} {gs : List (List Int)} (h : RwsI K H R gs) (k : Kl H H') : RwsI K H' R gs := h.imp (fun h => h.mv k) (fun h => h.mv k)
theorem RwsI.at {K : PySem.W.Frag} {H : Hp} {R : V} {gs : List (List Int)} (h : RwsI K H R gs) : ∃ r xs, R = .ref r ∧ Sq K H r xs ∧ xs.length = gs.length ∧
    ∀ (i : Nat) (hi : i < gs.length) (x : V), xs[i]? = some x → ∃ w, x = .ref w ∧ Sq K H w (gs[i].map V.int) := by
  rcases h with h | h
  · obtain ⟨r, xs, rfl, h1, h2⟩ := h.listE
    refine ⟨r, xs, rfl, Or.inl h1, by rw [h2.length, List.length_map], fun i hi x hx => ?_⟩
    obtain ⟨v, hv, hrow⟩ := h2.get (i := i) (d := intsD gs[i]) (by rw [List.getElem?_map, List.getElem?_eq_getElem hi]; rfl)
    obtain rfl : x = v := Option.some.inj (hx.symm.trans hv)
    obtain ⟨w, ts, rfl, hw1, hw2⟩ := hrow.listE
    obtain rfl := dpAll_intsE hw2
    exact ⟨w, rfl, Or.inl hw1⟩
  · obtain ⟨r, xs, rfl, h1, h2⟩ := h.tupE
    refine ⟨r, xs, rfl, Or.inr h1, by rw [h2.length, List.length_map], fun i hi x hx => ?_⟩
    obtain ⟨v, hv, hrow⟩ := h2.get (i := i) (d := intsT gs[i]) (by rw [List.getElem?_map, List.getElem?_eq_getElem hi]; rfl)
    obtain rfl : x = v := Option.some.inj (hx.symm.trans hv)
    obtain ⟨w, ts, rfl, hw1, hw2⟩ := hrow.tupE
    obtain rfl := dpAll_intsE hw2
    exact ⟨w, rfl, Or.inr hw1⟩
/-- ascending, each once -/
def Up (es : List Int) : Prop := es.Pairwise (· < ·)
theorem up_ext : ∀ {a b : List Int}, Up a → Up b → (∀ x, x ∈ a ↔ x ∈ b) → a = b
  | [], [], _, _, _ => rfl
  | [], y :: _, _, _, h => nomatch (h y).mpr List.mem_cons_self
  | x :: _, [], _, _, h => nomatch (h x).mp List.mem_cons_self
  | x :: a, y :: b, ha, hb, h => by
    obtain ⟨ha1, ha2⟩ := List.pairwise_cons.mp ha
    obtain ⟨hb1, hb2⟩ := List.pairwise_cons.mp hb
    have e : x = y := by
      rcases List.mem_cons.mp ((h x).mp List.mem_cons_self) with q | q
      · exact q
      · rcases List.mem_cons.mp ((h y).mpr List.mem_cons_self) with r | r
        · exact r.symm
        · have h1 := hb1 x q
          have h2 := ha1 y r
          omega
    subst e
    rw [up_ext ha2 hb2 fun z => ?_]
    constructor
    · intro q
      rcases List.mem_cons.mp ((h z).mp (List.mem_cons_of_mem _ q)) with r | r
      · have := ha1 z q; omega
      · exact r
    · intro q
      rcases List.mem_cons.mp ((h z).mpr (List.mem_cons_of_mem _ q)) with r | r
      · have := hb1 z q; omega
      · exact r
end Vf
set_option Elab.async false
set_option linter.all false
set_option maxRecDepth 100000
set_option maxHeartbeats 4000000
namespace Vf
open PySem L2 PyProof.Rows
structure TxtC (K : PySem.W.Frag) (mg : Str → Option Value) (B CB fB' : Addr) : Prop where
  len : mg "len" = none
  any : mg "any" = none
  tuple : mg "tuple" = none
  enumerate : mg "enumerate" = none
  sorted : mg "sorted" = none
  set : mg "set" = none
  base : BaseT K mg "CodeError" B
  bc : ErrT K mg "BadCode" "state" CB fB'
section
variable {P : Program} {w : World} {K : PySem.W.Frag} {mg : Str → Option Value} {base : Heap}
abbrev s_BadCode___init__ : Stmt := inClass (top 2) 0
abbrev N_BadCode___init__ : List Str := ["self", "state"]
abbrev P_BadCode___init__ : List Str := ["self", "state"]
theorem sc_BadCode___init__ : FnScope N_BadCode___init__ P_BadCode___init__ (defScope s_BadCode___init__) := ⟨rfl, rfl, rfl, by decide +kernel, rfl, by decide +kernel, by decide +kernel⟩

theorem ok_bc {f B C fI : Addr} {fd : FuncData} (F : Fun K "__init__" "BadCode.__init__" s_BadCode___init__ f fd) (Tb : BaseT K mg "CodeError" B) (T : ErrT K mg "BadCode" "state" C fI) : FnOk P w K mg base CX0 1 f fd P_BadCode___init__ (spErr C "state") := by
  refine F.ok sc_BadCode___init__ (fun vs H Q E h => ?_) (fun cdv A outer s H vs Q E hr h => ?_)
  · obtain ⟨a, v, rfl, _⟩ := h
    rfl
  · obtain ⟨a, v, rfl, ha, k⟩ := h
    refine ⟨_, pss_cons (ps_expr (pe_clsinit Tb (by rfl) (pa_cons (pv 0) (pa_cons pe_str pa_nil)))) (pss_one (ps_ost (pv 0) (pv 1))), ?_⟩
    refine ⟨_, rfl, a, C, _, rfl, by show 1 ≤ 1000; decide, T.oex, ha, ?_⟩
    exact ⟨_, rfl, _, rfl, a, C, rfl, T.oex, T.nf, Or.inl ⟨ha, fun d h1 h2 => k d h1 h2⟩⟩
/-- the errors that leave: BadCode with its state -/
def EBC (CB : Addr) (H : Hp) (E : XK) (i : Int) : Prop := ∀ d H', Raised H H' d "state" (.int i) → E (.ref CB) (some d) H'
theorem Raised.after {H H1 H' : Hp} {d : Addr} {f : Str} {v : V} (s : Same H H1) (r : Raised H1 H' d f v) : Raised H H' d f v := ⟨s.free r.1, r.2.1, s.trans r.2.2⟩
/-- a row that is wrong, of a shape with n states over m values -/
def badG (m n : Nat) (r : List Int) : Prop := r.length ≠ m ∨ ∃ g ∈ r, ¬ (0 ≤ g ∧ g < n)
def BadRow (m : Nat) (gs : List (List Int)) (i : Nat) : Prop :=
  (∃ h : i < gs.length, badG m gs.length gs[i] ∧ ∀ (j : Nat) (hj : j < i), ¬ badG m gs.length gs[j]) ∨ (i = 0 ∧ gs.length = 0)
def GoodRows (m : Nat) (gs : List (List Int)) : Prop := (∀ (j : Nat) (hj : j < gs.length), ¬ badG m gs.length gs[j]) ∧ 0 < gs.length
def okG (n : Int) (g : Int) : Bool := !(decide (0 ≤ g) && decide (g < n))
theorem okG_any {n : Nat} {r : List Int} : (r.map (okG n)).any id = true ↔ ∃ g ∈ r, ¬ (0 ≤ g ∧ g < n) := by
  rw [List.any_eq_true]
  constructor
  · rintro ⟨b, hb, e⟩
    obtain ⟨g, hg, rfl⟩ := List.mem_map.mp hb
    refine ⟨g, hg, fun h => ?_⟩
    have e : okG n g = true := e
    unfold okG at e
    rw [decide_eq_true h.1, decide_eq_true h.2] at e
    exact Bool.noConfusion e
  · rintro ⟨g, hg, h⟩
    refine ⟨okG n g, List.mem_map.mpr ⟨g, hg, rfl⟩, ?_⟩
    show okG n g = true
    unfold okG
    by_cases h0 : 0 ≤ g
    · have h1 : ¬ g < n := fun q => h ⟨h0, q⟩
      rw [decide_eq_false h1, Bool.and_false]; rfl
    · rw [decide_eq_false h0]; rfl
def spGoals (K : PySem.W.Frag) (CB : Addr) : Sp := fun vs H Q E => ∃ (z : Str) (R : V) (gs : List (List Int)), vs = [.str z, R] ∧ RwsI K H R gs ∧ z.length ≤ 26 ∧ gs.length ≤ 100 ∧ (∀ r ∈ gs, r.length ≤ 100) ∧
  (GoodRows z.length gs → ∀ H', Same H H' → Q .non H') ∧ (∀ i : Nat, BadRow z.length gs i → EBC CB H E i)
abbrev s_check_goals : Stmt := top 13
abbrev N_check_goals : List Str := ["values", "rows", "many", "state", "row", "goal"]
abbrev P_check_goals : List Str := ["values", "rows"]
theorem sc_check_goals : FnScope N_check_goals P_check_goals (defScope s_check_goals) := ⟨rfl, rfl, rfl, by decide +kernel, rfl, by decide +kernel, by decide +kernel⟩

theorem ok_goals {f B CB fB' : Addr} {fd fdB : FuncData} (F : Fun K "check_goals" "check_goals" s_check_goals f fd) (T : TxtC K mg B CB fB') (FB' : Fun K "__init__" "BadCode.__init__" s_BadCode___init__ fB' fdB) (bB' : Binds K fdB P_BadCode___init__ []) : FnOk P w K mg base (L2.CX P w) 3 f fd P_check_goals (spGoals K CB) := by
  have GB' : FnOk P w K mg base CX0 1 fB' fdB P_BadCode___init__ (spErr CB "state") := ok_bc FB' T.base T.bc
  refine F.okX sc_check_goals (fun vs H Q E h => ?_) (fun cdv A outer s H vs Q E hr h => ?_)
  · obtain ⟨z, R, gs, rfl, _⟩ := h
    rfl
  · obtain ⟨z, R, gs, rfl, hR, hz, hl, hrl, kq, ke⟩ := h
    refine ⟨_, (pss_cons (ps_set (i := 2) sc_check_goals.nd rfl (Or.inr rfl) (pe_callB call_len (by rfl) T.len PySem.boot_len (pa_cons (pv 1) pa_nil)))
      (pss_cons (ps_for (passes_of rfl) rfl (pi_enumX (by rfl) T.enumerate (pa_cons (pv 1) pa_nil)) (pg_tup (by rfl) (pgs_cons (pg_name (i := 3) sc_check_goals.nd rfl (Or.inl rfl)) (pgs_cons (pg_name (i := 4) sc_check_goals.nd rfl (Or.inl rfl)) pgs_nil))) (pss_one (ps_if (PW.pt (pw_or (pt_cmpR op_ne (pe_callB call_len (by rfl) T.len PySem.boot_len (pa_cons (pv 4) pa_nil)) (pe_callB call_len (by rfl) T.len PySem.boot_len (pa_cons (pv 0) pa_nil)) (nomark _)) (pw_or1 (pt_val (pe_callB (cr_any rfl) (by rfl) T.any boot_any (pa_cons (pe_lc (own := [("goal", 5)]) (g := gName 5) (by rfl) sc_check_goals.nd (pi_seq (K := K) rfl (pv 4)) (blkOk_by (own := [("goal", 5)]) (N := N_check_goals) (sc := defScope s_check_goals) (by decide +kernel)) (fun _ _ _ _ _ => pg_name (i := 5) sc_check_goals.nd rfl (Or.inl rfl)) (fun _ _ _ _ _ => pts_nil) (fun _ _ _ _ _ => (pe_not (pe_chain op_le op_lt pe_int (pv 5) (pv 2))))) pa_nil)))))) (pss_one (ps_raise rfl (takes_of rfl rfl rfl rfl) (pmk_oex T.bc.oex T.bc.iC T.bc.tI GB' (hr.mono (by decide)) bB' .nil pass0 (by rfl) T.bc.g (pa_cons (pv 3) pa_nil)))) pss_nil)))
      (pss_one (ps_if (pt_cmpR op_eq (pv 2) pe_int (nomark _)) (pss_one (ps_raise rfl (takes_of rfl rfl rfl rfl) (pmk_oex T.bc.oex T.bc.iC T.bc.tI GB' (hr.mono (by decide)) bB' .nil pass0 (by rfl) T.bc.g (pa_cons pe_int pa_nil)))) pss_nil)))), ?_⟩
    obtain ⟨r, xs, rfl, hr1, lr, hrow⟩ := hR.at
    have hzs : z.length ≤ sizeLine := Nat.le_of_lt (small1000 (by omega))
    refine ⟨_, rfl, _, _, rfl, hr1.len, ?_⟩
    refine ⟨_, rfl, r, xs, rfl, hr1, fun J hJ => for_it hJ (fun i σ H1 => ∃ v3 v4 v5 : Option V, σ = [some (.str z), some (.ref r), some (.int xs.length), v3, v4, v5] ∧ Same H H1 ∧ ∀ (j : Nat) (hj : j < gs.length), j < i → ¬ badG z.length gs.length gs[j])
      ⟨none, none, none, rfl, Same.refl H, fun j _ h => absurd h (Nat.not_lt_zero _)⟩ (fun i σ H1 _ ⟨_, _, _, _, s1, _⟩ => GSq.same s1) ?_ ?_⟩
    · rintro i x σ H1 H2 hi ⟨v3, v4, v5, rfl, s1, hj⟩ ⟨q, b, rfl, hq, rfl, hb⟩
      have hi' : i < gs.length := by omega
      obtain ⟨w5, rfl, hw1⟩ := hrow i hi' b hb
      have hri := hrl _ (List.getElem_mem hi')
      have s2 : Same H (L2.upd H1 q (.tup [.int i, .ref w5])) := s1.trans (same_new hq)
      refine ⟨q, _, rfl, SqT.of upd_same, rfl, _, _, rfl, _, _, rfl, rfl, ?_⟩
      generalize L2.upd H1 q (.tup [.int i, .ref w5]) = H3 at s2
      refine ⟨_, rfl, _, _, rfl, (hw1.same s2).len, _, rfl, _, _, rfl, ⟨hzs, rfl⟩, rfl, _, rfl, ?_⟩
      refine ite2 (fun c1 => ?_) (fun c1 => ?_)
      · have c1 : gs[i].length ≠ z.length := by simp at c1; omega
        have hbad : BadRow z.length gs i := Or.inl ⟨hi', Or.inl c1, fun j hj' => hj j (by omega) hj'⟩
        refine ⟨_, rfl, by show 1 ≤ 1000; decide, fun a ha => ⟨a, _, rfl, upd_same, fun d hd hda => ⟨rfl, d, [("state", V.int i)], upd_same, ?_, ?_, ?_⟩⟩⟩
        · rw [upd_ne hda, upd_same]
        · rw [upd_ne hda] at hd; exact hd
        · rw [upd_ne hda] at hd
          exact ke i hbad d _ ((raised_of ha hd hda).after s2)
      have c1 : gs[i].length = z.length := by simp at c1; omega
      refine ⟨_, rfl, w5, gs[i].map V.int, rfl, hw1.same s2, fun J2 hJ2 D hD => lc_it hJ2 (fun j H4 => H4 D = some (.lst (((gs[i].take j).map (okG xs.length)).map V.bl)) ∧ Same H3 H4)
        ⟨upd_same, same_new hD⟩ (fun j H4 _ ⟨_, s4⟩ => GSq.same s4) ?_ ?_⟩
      · rintro j x H4' H4 hjt ⟨hD4, s4⟩ ⟨rfl, hx⟩
        have hj' : j < gs[i].length := by rw [List.length_map] at hjt; exact hjt
        obtain rfl : V.int (gs[i][j]) = x := by
          rw [List.getElem?_map, List.getElem?_eq_getElem hj'] at hx
          exact Option.some.inj hx
        refine ⟨rfl, ?_⟩
        refine lcYes ?_
        have hlen : (((gs[i].take j).map (okG xs.length)).map V.bl).length < sizeLine := by
          rw [List.length_map, List.length_map, List.length_take]; exact small1000 (by omega)
        have ee : ∀ v : V, v = .bl (okG xs.length (gs[i][j])) → L2.upd H4 D (.lst (((gs[i].take j).map (okG xs.length)).map V.bl ++ [v])) D = some (.lst (((gs[i].take (j + 1)).map (okG xs.length)).map V.bl)) := fun v hv => by
          rw [upd_same, take_more hj', List.map_append, List.map_append, hv]; rfl
        refine ⟨_, rfl, _, _, rfl, rfl, _, rfl, ?_⟩
        by_cases g0 : 0 ≤ gs[i][j]
        · rw [if_pos (decide_eq_true g0)]
          refine ⟨_, rfl, _, _, rfl, rfl, _, rfl, _, hD4, hlen, ee _ ?_, s4.put hD⟩
          unfold okG
          rw [decide_eq_true g0, Bool.true_and]
        · rw [if_neg (by simpa using g0)]
          refine ⟨_, rfl, _, hD4, hlen, ee _ ?_, s4.put hD⟩
          unfold okG
          rw [decide_eq_false g0]; rfl
      · rintro H4 ⟨hD4, s4⟩
        rw [List.length_map, List.take_length] at hD4
        refine ⟨D, _, rfl, SqL.of hD4, _, rfl, ite2 (fun c3 => ?_) (fun c3 => ?_)⟩
        · have c3 : ∃ g ∈ gs[i], ¬ (0 ≤ g ∧ g < gs.length) := okG_any.mp (by rw [lr] at c3; exact c3)
          have hbad : BadRow z.length gs i := Or.inl ⟨hi', Or.inr c3, fun j hj' => hj j (by omega) hj'⟩
          have s5 : Same H H4 := s2.trans s4
          refine ⟨_, rfl, by show 1 ≤ 1000; decide, fun a ha => ⟨a, _, rfl, upd_same, fun d hd hda => ⟨rfl, d, [("state", V.int i)], upd_same, ?_, ?_, ?_⟩⟩⟩
          · rw [upd_ne hda, upd_same]
          · rw [upd_ne hda] at hd; exact hd
          · rw [upd_ne hda] at hd
            exact ke i hbad d _ ((raised_of ha hd hda).after s5)
        · refine ⟨_, _, _, rfl, s2.trans s4, fun j hjl hji => ?_⟩
          by_cases e : j = i
          · subst e
            rintro (h | h)
            · exact h c1
            · exact c3 (by rw [lr]; exact okG_any.mpr h)
          · exact hj j hjl (by omega)
    · rintro σ H1 ⟨v3, v4, v5, rfl, s1, hj⟩
      have hj : ∀ (j : Nat) (hj : j < gs.length), ¬ badG z.length gs.length gs[j] := fun j h => hj j h (by omega)
      refine ⟨_, rfl, rfl, _, rfl, ite2 (fun c1 => ?_) (fun c1 => ?_)⟩
      · have c1 : xs.length = 0 := by simpa using c1
        refine ⟨by show 1 ≤ 1000; decide, fun a ha => ⟨a, _, rfl, upd_same, fun d hd hda => ⟨rfl, d, [("state", V.int 0)], upd_same, ?_, ?_, ?_⟩⟩⟩
        · rw [upd_ne hda, upd_same]
        · rw [upd_ne hda] at hd; exact hd
        · rw [upd_ne hda] at hd
          exact ke 0 (Or.inr ⟨rfl, by omega⟩) d _ ((raised_of ha hd hda).after s1)
      have c1 : xs.length ≠ 0 := by simpa using c1
      exact kq ⟨hj, by omega⟩ _ s1
def spGood (K : PySem.W.Frag) (CB : Addr) : Sp := fun vs H Q E => ∃ (a : Addr) (es : List Int) (n : Nat), vs = [.ref a, .int n] ∧ Sq K H a (es.map V.int) ∧ es.length ≤ 1000 ∧
  ((∀ e ∈ es, 0 ≤ e ∧ e < n) → ∀ H', Same H H' → Q .non H') ∧ (∀ (i : Nat) (h : i < es.length), ¬ (0 ≤ es[i] ∧ es[i] < n) → (∀ j (hj : j < i), 0 ≤ es[j] ∧ es[j] < n) → EBC CB H E es[i])
abbrev s_check_good : Stmt := top 14
abbrev N_check_good : List Str := ["good", "many", "state"]
abbrev P_check_good : List Str := ["good", "many"]
theorem sc_check_good : FnScope N_check_good P_check_good (defScope s_check_good) := ⟨rfl, rfl, rfl, by decide +kernel, rfl, by decide +kernel, by decide +kernel⟩

theorem ok_good {f B CB fB' : Addr} {fd fdB : FuncData} (F : Fun K "check_good" "check_good" s_check_good f fd) (T : TxtC K mg B CB fB') (FB' : Fun K "__init__" "BadCode.__init__" s_BadCode___init__ fB' fdB) (bB' : Binds K fdB P_BadCode___init__ []) : FnOk P w K mg base (L2.CX P w) 3 f fd P_check_good (spGood K CB) := by
  have GB' : FnOk P w K mg base CX0 1 fB' fdB P_BadCode___init__ (spErr CB "state") := ok_bc FB' T.base T.bc
  refine F.okX sc_check_good (fun vs H Q E h => ?_) (fun cdv A outer s H vs Q E hr h => ?_)
  · obtain ⟨a, es, n, rfl, _⟩ := h
    rfl
  · obtain ⟨a, es, n, rfl, ha, hl, kq, ke⟩ := h
    refine ⟨_, (pss_one (ps_for (passes_of rfl) rfl (pi_seq (K := K) rfl (pv 0)) (pg_name (i := 2) sc_check_good.nd rfl (Or.inl rfl)) (pss_one (ps_if (pt_not (pt_chain op_le op_lt pe_int (pv 2) (pv 1))) (pss_one (ps_raise rfl (takes_of rfl rfl rfl rfl) (pmk_oex T.bc.oex T.bc.iC T.bc.tI GB' (hr.mono (by decide)) bB' .nil pass0 (by rfl) T.bc.g (pa_cons (pv 2) pa_nil)))) pss_nil)))), ?_⟩
    refine ⟨_, rfl, a, _, rfl, ha, fun J hJ => for_it hJ (fun i σ H1 => ∃ v2 : Option V, σ = [some (.ref a), some (.int n), v2] ∧ Same H H1 ∧ ∀ (j : Nat) (hj : j < es.length), j < i → 0 ≤ es[j] ∧ es[j] < n)
      ⟨none, rfl, Same.refl H, fun j _ h => absurd h (Nat.not_lt_zero _)⟩ (fun i σ H1 _ ⟨_, _, s1, _⟩ => GSq.same s1) ?_ ?_⟩
    · rintro i x σ H2 H1 hi ⟨v2, rfl, s1, hj⟩ ⟨rfl, hx⟩
      have hi' : i < es.length := by rw [List.length_map] at hi; exact hi
      obtain rfl : V.int (es[i]) = x := by
        rw [List.getElem?_map, List.getElem?_eq_getElem hi'] at hx
        exact Option.some.inj hx
      refine ⟨_, rfl, _, _, rfl, rfl, _, rfl, ?_⟩
      have good : (0 ≤ es[i] ∧ es[i] < n) → ∀ (j : Nat) (hj : j < es.length), j < i + 1 → 0 ≤ es[j] ∧ es[j] < n := fun g j hjl hji => by
        by_cases e : j = i
        · subst e; exact g
        · exact hj j hjl (by omega)
      have bad : ¬ (0 ≤ es[i] ∧ es[i] < n) → EBC CB H E es[i] := fun g => ke i hi' g fun j hj' => hj j (by omega) hj'
      have rs : ¬ (0 ≤ es[i] ∧ es[i] < n) → tMkO CB (spErr CB "state") [] (tCons (tVar 2) tNil) [some (.ref a), some (.int n), some (.int es[i])] H1 (fun cls d H' => E cls d H') := fun g => by
        refine ⟨_, rfl, by show 1 ≤ 1000; decide, fun a ha => ⟨a, _, rfl, upd_same, fun d hd hda => ⟨rfl, d, [("state", V.int es[i])], upd_same, ?_, ?_, ?_⟩⟩⟩
        · rw [upd_ne hda, upd_same]
        · rw [upd_ne hda] at hd; exact hd
        · rw [upd_ne hda] at hd
          exact bad g d _ ((raised_of ha hd hda).after s1)
      by_cases g0 : 0 ≤ es[i]
      · rw [if_pos (decide_eq_true g0)]
        refine ⟨_, rfl, _, _, rfl, rfl, _, rfl, ?_⟩
        by_cases g1 : es[i] < n
        · refine ite2 (fun c => absurd c ?_) (fun _ => ?_)
          · rw [decide_eq_true g1]; decide
          · exact ⟨_, rfl, s1, good ⟨g0, g1⟩⟩
        · refine ite2 (fun _ => rs fun q => g1 q.2) (fun c => absurd ?_ c)
          rw [decide_eq_false g1]; decide
      · rw [if_neg (by simpa using g0)]
        refine ⟨_, rfl, ?_⟩
        exact ite2 (fun _ => rs fun q => g0 q.1) (fun c => absurd rfl c)
    · rintro σ H1 ⟨v2, rfl, s1, hj⟩
      refine kq (fun e he => ?_) _ s1
      obtain ⟨j, hjl, rfl⟩ := List.getElem_of_mem he
      exact hj j hjl (by rw [List.length_map]; exact hjl)
end
end Vf
set_option Elab.async false
set_option linter.all false
set_option maxRecDepth 100000
set_option maxHeartbeats 4000000
namespace Vf
open PySem L2 PyProof.Rows
theorem kLR : ¬ (("letters" : Str) = "rows") := by decide +kernel
theorem kLG : ¬ (("letters" : Str) = "good") := by decide +kernel
theorem kRG : ¬ (("rows" : Str) = "good") := by decide +kernel
/-- a shape's attributes -/
def sflds (z : Str) (R E : V) : List (Str × V) := putF "good" E (putF "rows" R (putF "letters" (.str z) []))
theorem sf_letters (z : Str) (R E : V) : (sflds z R E).lookup ("letters" : Str) = some (.str z) := by
  unfold sflds
  rw [lookup_putF, if_neg kLG, lookup_putF, if_neg kLR, lookup_putF, if_pos rfl]
theorem sf_rows (z : Str) (R E : V) : (sflds z R E).lookup ("rows" : Str) = some R := by
  unfold sflds
  rw [lookup_putF, if_neg kRG, lookup_putF, if_pos rfl]
theorem sf_good (z : Str) (R E : V) : (sflds z R E).lookup ("good" : Str) = some E := by
  unfold sflds
  rw [lookup_putF, if_pos rfl]
theorem sf_no (z : Str) (R E : V) {m : Str} (h1 : ¬ m = "letters") (h2 : ¬ m = "rows") (h3 : ¬ m = "good") : (sflds z R E).lookup m = none := by
  unfold sflds
  rw [lookup_putF, if_neg h3, lookup_putF, if_neg h2, lookup_putF, if_neg h1]
  rfl
/-- a shape's object -/
def ShapeAt (K : PySem.W.Frag) (C : Addr) (H : Hp) (o : Addr) (z : Str) (gs : List (List Int)) (es : List Int) : Prop :=
  ∃ dx R E, H o = some (.ins C dx (sflds z R E)) ∧ Dp K H R (rowsIT gs) ∧ Dp K H E (intsT es)
/-- what is asked of the class -/
structure TxtS (K : PySem.W.Frag) (mg : Str → Option Value) (C fCG fCD B CB fB' : Addr) : Prop extends TxtC K mg B CB fB' where
  cl : Cls K C
  nL : NoAttr K C "letters"
  nR : NoAttr K C "rows"
  nG : NoAttr K C "good"
  mgShape : mg "Shape" = some (.ref C)
  mcheck_goals : mg "check_goals" = some (.ref fCG)
  kcheck_goals : PySem.W.keepIn K (.ref fCG) = true
  mcheck_good : mg "check_good" = some (.ref fCD)
  kcheck_good : PySem.W.keepIn K (.ref fCD) = true
/-- Shape(..), right or wrong; what was there stays -/
def spInitS (K : PySem.W.Frag) (C CB : Addr) : Sp := fun vs H Q E' => ∃ (o dx : Addr) (z : Str) (R : V) (g : Addr) (gs : List (List Int)) (es : List Int), vs = [.ref o, .str z, R, .ref g] ∧ H o = some (.ins C dx []) ∧ RwsI K H R gs ∧ SqL K H g (es.map V.int) ∧ z.length ≤ 26 ∧ gs.length ≤ 100 ∧ es.length < 64 ∧ (∀ r ∈ gs, r.length ≤ 100) ∧
  (GoodRows z.length gs → (∀ e ∈ es, 0 ≤ e ∧ e < (gs.length : Nat)) → ∀ H' es', Up es' → (∀ x, x ∈ es' ↔ x ∈ es) → ShapeAt K C H' o z gs es' → (∀ b u, H b = some u → b ≠ o → H' b = some u) → Q .non H') ∧
  (∀ i, BadRow z.length gs i → EBC CB H E' i) ∧ (GoodRows z.length gs → ∀ (i : Nat) (h : i < es.length), ¬ (0 ≤ es[i] ∧ es[i] < (gs.length : Nat)) → (∀ j (hj : j < i), 0 ≤ es[j] ∧ es[j] < (gs.length : Nat)) → EBC CB H E' es[i])
theorem EBC.aft {CB : Addr} {H H1 : Hp} {E : XK} {i : Int} (s : Same H H1) (e : EBC CB H E i) : EBC CB H1 E i := fun d H' r => e d H' (r.after s)
section
variable {P : Program} {w : World} {K : PySem.W.Frag} {mg : Str → Option Value} {base : Heap}
abbrev s_Shape___init__ : Stmt := inClass (top 12) 0
abbrev N_Shape___init__ : List Str := ["self", "values", "rows", "good", "row"]
abbrev P_Shape___init__ : List Str := ["self", "values", "rows", "good"]
theorem sc_Shape___init__ : FnScope N_Shape___init__ P_Shape___init__ (defScope s_Shape___init__) := ⟨rfl, rfl, rfl, by decide +kernel, rfl, by decide +kernel, by decide +kernel⟩

theorem ok_initS {f fCG fCD C B CB fB' : Addr} {fd fdCG fdCD fdB : FuncData} (F : Fun K "__init__" "Shape.__init__" s_Shape___init__ f fd) (T : TxtS K mg C fCG fCD B CB fB') (FCG : Fun K "check_goals" "check_goals" s_check_goals fCG fdCG) (bcheck_goals : Binds K fdCG P_check_goals [])
    (FCD : Fun K "check_good" "check_good" s_check_good fCD fdCD) (bcheck_good : Binds K fdCD P_check_good [])
    (FB' : Fun K "__init__" "BadCode.__init__" s_BadCode___init__ fB' fdB) (bB' : Binds K fdB P_BadCode___init__ []) : FnOk P w K mg base (L2.CX P w) 4 f fd P_Shape___init__ (spInitS K C CB) := by
  have Gcheck_goals : FnOk P w K mg base (L2.CX P w) 3 fCG fdCG P_check_goals (spGoals K CB) := ok_goals FCG T.toTxtC FB' bB'
  have Gcheck_good : FnOk P w K mg base (L2.CX P w) 3 fCD fdCD P_check_good (spGood K CB) := ok_good FCD T.toTxtC FB' bB'
  refine F.okX sc_Shape___init__ (fun vs H Q E h => ?_) (fun cdv A outer s H vs Q E' hr h => ?_)
  · obtain ⟨o, dx, z, R, g, gs, es, rfl, _⟩ := h
    rfl
  · obtain ⟨o, dx, z, R, g, gs, es, rfl, ho, hR, hg, hz, hl, hel, hrl, kq, ke, ke2⟩ := h
    refine ⟨_, (pss_cons (ps_expr (pe_call Gcheck_goals (hr.mono (by decide)) (by rfl) T.mcheck_goals T.kcheck_goals bcheck_goals .nil (passes_call (takes_of rfl rfl rfl rfl) (fun _ _ _ _ h => h)) (pa_cons (pv 1) (pa_cons (pv 2) pa_nil))))
      (pss_cons (ps_expr (pe_call Gcheck_good (hr.mono (by decide)) (by rfl) T.mcheck_good T.kcheck_good bcheck_good .nil (passes_call (takes_of rfl rfl rfl rfl) (fun _ _ _ _ h => h)) (pa_cons (pv 3) (pa_cons (pe_callB call_len (by rfl) T.len PySem.boot_len (pa_cons (pv 2) pa_nil)) pa_nil))))
      (pss_cons (ps_fld (pv 0) (pv 1) rfl)
      (pss_cons (ps_fld (pv 0) (pe_callTy call_tuple_of (by rfl) T.tuple boot_tuple (pa_cons (pe_lc (own := [("row", 4)]) (g := gName 4) (by rfl) sc_Shape___init__.nd (pi_seq (K := K) rfl (pv 2)) (blkOk_by (own := [("row", 4)]) (N := N_Shape___init__) (sc := defScope s_Shape___init__) (by decide +kernel)) (fun _ _ _ _ _ => pg_name (i := 4) sc_Shape___init__.nd rfl (Or.inl rfl)) (fun _ _ _ _ _ => pts_nil) (fun _ _ _ _ _ => (pe_callTy (call_tupleK (K := K) rfl) (by rfl) T.tuple boot_tuple (pa_cons (pv 4) pa_nil)))) pa_nil)) rfl)
      (pss_one (ps_fld (pv 0) (pe_callTy call_tuple_of (by rfl) T.tuple boot_tuple (pa_cons (pe_callB (cr_sortedSet rfl) (by rfl) T.sorted boot_sorted (pa_cons (pe_callTy (call_setI rfl) (by rfl) T.set (by decide +kernel) (pa_cons (pv 3) pa_nil)) pa_nil)) pa_nil)) rfl)))))), ?_⟩
    refine ⟨_, rfl, _, rfl, z, R, gs, rfl, hR, hz, hl, hrl, fun hok H0 s0 => ?_, fun i hb => ke i hb⟩
    obtain ⟨r, xs, rfl, hr1, lr, hrow⟩ := hR.at
    refine ⟨_, rfl, _, rfl, _, _, rfl, (hr1.same s0).len, ?_⟩
    refine ⟨g, es, gs.length, ?_, Or.inl ((Kl.same s0).seq hg), by omega, fun hgood H1 s1' => ?_, fun i hi hb hj => (ke2 hok i hi hb hj).aft s0⟩
    · show [V.ref g, V.int (xs.length : Nat)] = _
      rw [lr]
    have k := kq hok hgood
    have s1 := s0.trans s1'
    clear s0 s1'
    have ho1 := s1 _ _ ho
    -- self.letters = values
    refine ⟨_, rfl, _, rfl, o, C, dx, [], rfl, ho1, T.cl, T.nL, (by show 0 < 1000; decide), ?_⟩
    have k2 : ∀ b u, H b = some u → b ≠ o → (L2.upd H1 o (.ins C dx (putF "letters" (.str z) []))) b = some u := fun b u h n => by rw [upd_ne n]; exact s1 b u h
    have ho2 : (L2.upd H1 o (.ins C dx (putF "letters" (.str z) []))) o = some (.ins C dx (putF "letters" (.str z) [])) := upd_same
    revert k2 ho2
    generalize L2.upd H1 o (.ins C dx (putF "letters" (.str z) [])) = H2
    intro k2 ho2
    have kl2 : Kl H H2 := fun b u h d => k2 b u h fun q => by rw [q, ho] at h; cases h; exact d
    -- self.rows = ..
    refine ⟨_, rfl, r, xs, rfl, hr1.kl kl2, fun J hJ D hD => lc_it hJ (fun i H4 => ∃ vs : List V, H4 D = some (.lst vs) ∧ DpAll K (L2.del H4 D) vs ((gs.take i).map intsT) ∧ Same H2 H4)
      ⟨[], upd_same, .nil, same_new hD⟩ (fun i H4 _ ⟨_, _, _, s4⟩ => GSq.same s4) ?_ ?_⟩
    · rintro i x H4' H4 hi ⟨vs, hD4, hd4, s4⟩ ⟨rfl, hx⟩
      have hi' : i < gs.length := by omega
      obtain ⟨w5, rfl, hw1⟩ := hrow i hi' x hx
      have hri := hrl _ (List.getElem_mem hi')
      have kl4 : Kl H H4 := kl2.trans (Kl.same s4)
      refine ⟨rfl, ?_⟩
      refine lcYes ?_
      have hvl : vs.length < sizeLine := by rw [hd4.length, List.length_map, List.length_take]; exact small1000 (by omega)
      rcases hw1 with hw1 | hw1
      · refine ⟨_, rfl, w5, _, rfl, Or.inl ⟨kl4.seq hw1, fun t ht => ⟨vs, ?_, hvl, vs ++ [.ref t], upd_same, ?_, ?_⟩⟩⟩
        · rw [upd_ne (ne_of_none hD4 ht)]; exact hD4
        · have ntD : t ≠ D := (ne_of_none hD4 ht).symm
          have e0 : Kl (L2.del H4 D) (L2.del (L2.upd (L2.upd H4 t (.tup (gs[i].map V.int))) D (.lst (vs ++ [.ref t]))) D) := fun b o e _ => by
            obtain ⟨h1, h2⟩ := del_some e
            rw [del_ne h1, upd_ne h1, upd_ne (ne_of_none h2 ht)]
            exact h2
          rw [take_more hi', List.map_append]
          refine (hd4.mv e0).snoc (.tup (xs := gs[i].map V.int) (SqT.of ?_) (dpAll_ints K _ _))
          rw [del_ne ntD, upd_ne ntD, upd_same]
        · exact (s4.trans (same_new ht)).put hD
      · have hw4 := kl4.seqT hw1
        refine ⟨_, rfl, w5, _, rfl, Or.inr ⟨hw4, vs, hD4, hvl, vs ++ [.ref w5], upd_same, ?_, s4.put hD⟩⟩
        have e0 : Kl (L2.del H4 D) (L2.del (L2.upd H4 D (.lst (vs ++ [.ref w5]))) D) := fun b o e _ => by
          obtain ⟨h1, h2⟩ := del_some e
          rw [del_ne h1, upd_ne h1]
          exact h2
        rw [take_more hi', List.map_append]
        refine (hd4.mv e0).snoc (.tup (xs := gs[i].map V.int) ?_ (dpAll_ints K _ _))
        rcases hw4 with (h | ⟨o', h⟩) | h
        · have n : w5 ≠ D := ne_of h hD4 (fun z => nomatch z)
          exact Or.inl (Or.inl (by rw [del_ne n, upd_ne n]; exact h))
        · have n : w5 ≠ D := ne_of h hD4 (fun z => nomatch z)
          exact Or.inl (Or.inr ⟨o', by rw [del_ne n, upd_ne n]; exact h⟩)
        · exact Or.inr h
    · rintro H4 ⟨vs, hD4, hd4, s4⟩
      rw [lr, List.take_of_length_le (Nat.le_refl _)] at hd4
      refine ⟨D, vs, rfl, Or.inl ⟨SqL.of hD4, fun t ht => ?_⟩⟩
      have s5 : Same H2 (L2.upd H4 t (.tup vs)) := s4.trans (same_new ht)
      have hT : Dp K (L2.upd H4 t (.tup vs)) (.ref t) (rowsIT gs) := .tup (SqT.of upd_same) (hd4.mv ((Kl.undel _ _).trans (Kl.same (same_new ht))))
      revert s5 hT
      generalize L2.upd H4 t (.tup vs) = H5
      intro s5 hT
      have ho5 := s5 _ _ ho2
      refine ⟨_, rfl, o, C, dx, _, rfl, ho5, T.cl, T.nR, (by show 1 < 1000; decide), ?_⟩
      -- self.good = tuple(sorted(set(good)))
      have hnko : ∀ b u, H b = some u → b ≠ o → (L2.upd H5 o (.ins C dx (putF "rows" (.ref t) (putF "letters" (.str z) [])))) b = some u := fun b u h n => by rw [upd_ne n]; exact s5 _ _ (k2 b u h n)
      have hT6 : Dp K (L2.upd H5 o (.ins C dx (putF "rows" (.ref t) (putF "letters" (.str z) [])))) (.ref t) (rowsIT gs) := hT.mv fun b u h d => by
        rw [upd_ne (fun q => by rw [q, ho5] at h; cases h; exact d)]; exact h
      have ho6 : (L2.upd H5 o (.ins C dx (putF "rows" (.ref t) (putF "letters" (.str z) [])))) o = some (.ins C dx (putF "rows" (.ref t) (putF "letters" (.str z) []))) := upd_same
      revert hnko hT6 ho6
      generalize L2.upd H5 o (.ins C dx (putF "rows" (.ref t) (putF "letters" (.str z) []))) = H6
      intro hnko hT6 ho6
      have kl6 : Kl H H6 := fun b u h d => hnko b u h fun q => by rw [q, ho] at h; cases h; exact d
      refine ⟨_, rfl, g, es, rfl, kl6.seq hg, by omega, fun p n hp hn => ?_⟩
      refine ⟨p, _, n, rfl, upd_same, by omega, fun ns q hu hm hnl hq => ?_⟩
      refine ⟨q, _, rfl, Or.inl ⟨SqL.of upd_same, fun a ha => ?_⟩⟩
      have nqp : q ≠ p := (ne_of_none upd_same hq).symm
      have hq6 : H6 q = none := by rw [upd_ne nqp] at hq; exact hq
      have s7 : Same H6 (L2.upd (L2.upd (L2.upd H6 p (SetO w p (fun j => decide (j ∈ es)) n)) q (.lst (ns.map V.int))) a (.tup (ns.map V.int))) := ((same_new hp).trans (same_new hq)).trans (same_new ha)
      have ha7 : (L2.upd (L2.upd (L2.upd H6 p (SetO w p (fun j => decide (j ∈ es)) n)) q (.lst (ns.map V.int))) a (.tup (ns.map V.int))) a = some (.tup (ns.map V.int)) := upd_same
      have fin : ∀ H7 : Hp, Same H6 H7 → H7 a = some (.tup (ns.map V.int)) → Q .non (L2.upd H7 o (.ins C dx (sflds z (.ref t) (.ref a)))) := fun H7 s7 ha7 => by
        have kl8 : Kl H7 (L2.upd H7 o (.ins C dx (sflds z (.ref t) (.ref a)))) := fun b u h d => by
          rw [upd_ne (fun q => by rw [q, s7 _ _ ho6] at h; cases h; exact d)]; exact h
        refine k _ ns hu (fun x => by rw [hm x, decide_eq_true_eq]) ⟨dx, .ref t, .ref a, upd_same, (hT6.mv (Kl.same s7)).mv kl8, (Dp.tup (SqT.of ha7) (dpAll_ints K H7 ns)).mv kl8⟩ fun b u h n => ?_
        rw [upd_ne n]
        exact s7 _ _ (hnko b u h n)
      exact ⟨_, rfl, o, C, dx, _, rfl, s7 _ _ ho6, T.cl, T.nG, (by show 2 < 1000; decide), fin _ s7 ha7⟩
end
end Vf
set_option Elab.async false
set_option linter.all false
set_option maxRecDepth 100000
set_option maxHeartbeats 4000000
/-! == and len by an own __eq__, __len__: any answer -/
namespace Vf
open PySem PySem.Spec PyProof.Rows L2
section
variable {X : Cx} {CX : CXT} {n : Nat} {C f : Addr} {fd : FuncData} {ps : List Str} {sp : Sp} {E : XK}
theorem run_ok {A : Around} {pins : List (Addr × Obj)} {σ : L2.St} {H : Hp} {s : Shared} {us : List Value} {ws : List V} {Q : VK} (F : FnOk X.prog X.w X.K X.mg X.base CX n f fd ps sp) (hb : Binds X.K fd ps []) (hx : Passes CX X E) (sb : Sub X n A)
    (I : Inv X pins σ H s) (r : Vals ws us) (h : sp ws H Q E) : wpAny (model X.prog X.w) A (call (.ref f) us) (EP X pins σ Q) X.xe s := by
  have e0 : Env0 X.prog X.w X.K X.mg X.base A X.stack s H := by
    have e := I.env0
    exact ⟨by rw [sb.fr]; exact e.frames, e.mod, e.bs, e.bsz, e.funs, e.frf, e.hok, e.bare⟩
  have hl := F.len _ _ _ _ h
  refine wpAny_call (codeAny_mono (F.run A X.stack s H ⟨us, []⟩ us ws _ E sb.room e0 (by
    have hl2 : (us ++ []).length = ps.length := by rw [List.append_nil, ← r.length]; simpa using hl
    have := hb s us I.kIn hl2
    simpa using this) r h) fun r s' hq => ?_)
  cases r with
  | error e => exact hx pins σ H s e s' I hq
  | ok fl =>
    cases fl with
    | ret w => exact I.after hq
    | next => exact False.elim hq
    | brk => exact False.elim hq
    | cont => exact False.elim hq
/-- x op y, x an instance of the class at C whose def for op is at f; y another such instance -/
def rOwnI (C : Addr) (sp : Sp) (E : XK) : R2 := fun x y H Q => ∃ a dx fs b dy gs, x = .ref a ∧ y = .ref b ∧ H a = some (.ins C dx fs) ∧ H b = some (.ins C dy gs) ∧ sp [x, y] H Q E
theorem op_ownI {op : CmpOp} (hop : ∀ a b, compareOp op a b = richCompare op a b) (hs : PySem.W.findIn X.K (.ref C) (cmpInfo op).2.1 = some (some (.ref f))) (hf : PySem.W.isFn X.K (.ref f) = true) (F : FnOk X.prog X.w X.K X.mg X.base CX n f fd ps sp)
    (hr : Room n X.A) (hb : Binds X.K fd ps []) (hx : Passes CX X E) : OpR X (compareOp op) (rOwnI C sp E) := by
  intro pins s σ H x y v u Q I rx ry h
  obtain ⟨a, dx, fs, b, dy, gs, rfl, rfl, ha, hb', q⟩ := h
  cases (show v = Value.ref a from rx)
  cases (show u = Value.ref b from ry)
  obtain ⟨mA, J, _⟩ := ins_get I.hok ha
  obtain ⟨mB, J', _⟩ := ins_get I.hok hb'
  obtain ⟨od, J, _⟩ := J.look
  obtain ⟨od', J', _⟩ := J'.look
  obtain ⟨m, hF⟩ := I.fr
  rw [hop]
  refine PySem.W.cmp_K (op := op) (tb := .ref C) hr.units0 hF I.ok.mod.kin J J'.type (by simp [PySem.W.notFirst]) hs hf ?_
  refine wpAny_mono (run_ok (us := [.ref a, .ref b]) (ws := [.ref a, .ref b]) F hb hx ⟨hr, rfl⟩ I (.cons rfl (.cons rfl .nil)) q) (fun w s' z => ?_) fun _ _ x => x
  obtain ⟨z', H', I', rz, qz⟩ := z
  exact SlX.cmpback rz ⟨z', H', I', rz, qz⟩
/-- x op y, y a tuple -/
def rOwnT (K : PySem.W.Frag) (C : Addr) (sp : Sp) (E : XK) : R2 := fun x y H Q => ∃ a dx fs b ys, x = .ref a ∧ y = .ref b ∧ H a = some (.ins C dx fs) ∧ SqT K H b ys ∧ sp [x, y] H Q E
theorem op_ownT {op : CmpOp} (hop : ∀ a b, compareOp op a b = richCompare op a b) (hs : PySem.W.findIn X.K (.ref C) (cmpInfo op).2.1 = some (some (.ref f))) (hf : PySem.W.isFn X.K (.ref f) = true) (F : FnOk X.prog X.w X.K X.mg X.base CX n f fd ps sp)
    (hr : Room n X.A) (hb : Binds X.K fd ps []) (hx : Passes CX X E) (hn : PySem.W.subIn X.K (.type "tuple") (.ref C) = some false) : OpR X (compareOp op) (rOwnT X.K C sp E) := by
  intro pins s σ H x y v u Q I rx ry h
  obtain ⟨a, dx, fs, b, ys, rfl, rfl, ha, hb', q⟩ := h
  cases (show v = Value.ref a from rx)
  cases (show u = Value.ref b from ry)
  obtain ⟨mA, J, _⟩ := ins_get I.hok ha
  obtain ⟨od, J, _⟩ := J.look
  obtain ⟨m, hF⟩ := I.fr
  obtain ⟨its, r, ht, hz⟩ := I.tuple hb'
  obtain ⟨o, ho, hc, _⟩ := id ht
  have J' : PySem.W.Looks (model X.prog X.w) s.heap (typeOf (.ref b)) (.type "tuple") := fun A Q E s k q => wpAny_typeOf_ref (k _ _ ho) (by rw [hc]; exact q)
  rw [hop]
  refine PySem.W.cmp_K (op := op) (tb := .type "tuple") hr.units0 hF I.ok.mod.kin J J' (by simp [PySem.W.notFirst, hn]) hs hf ?_
  refine wpAny_mono (run_ok (us := [.ref a, .ref b]) (ws := [.ref a, .ref b]) F hb hx ⟨hr, rfl⟩ I (.cons rfl (.cons rfl .nil)) q) (fun w s' z => ?_) fun _ _ x => x
  obtain ⟨z', H', I', rz, qz⟩ := z
  exact SlX.cmpback rz ⟨z', H', I', rz, qz⟩
/-- len(x) by an own __len__ -/
def rLenI (C : Addr) (sp : Sp) (E : XK) : List V → Hp → VK → Prop := fun xs H Q => ∃ a dx fs, xs = [.ref a] ∧ H a = some (.ins C dx fs) ∧ sp [.ref a] H (fun z H' => ∃ k : Nat, z = .int k ∧ k ≤ sizeLine ∧ Q z H') E
theorem call_lenI (hs : PySem.W.findIn X.K (.ref C) "__len__" = some (some (.ref f))) (hf : PySem.W.isFn X.K (.ref f) = true) (F : FnOk X.prog X.w X.K X.mg X.base CX n f fd ps sp)
    (hr : Room (n + 1) X.A) (hb : Binds X.K fd ps []) (hx : Passes CX X E) : CallR X (.builtin "len") (rLenI C sp E) := by
  intro pins s σ H xs us Q I r h
  obtain ⟨a, dx, fs, rfl, ha, q⟩ := h
  obtain ⟨u, rfl, ru⟩ := vals1 r
  cases (show u = Value.ref a from ru)
  obtain ⟨mA, J, _⟩ := ins_get I.hok ha
  obtain ⟨od, J, _⟩ := J.look
  have hl := line63
  have hsz : sizeLine = 16777216 := sizeLine_eq
  refine Calls.call_function_entry PySem.kind_len PySem.plain_len PySem.entry_len (PySem.args_len1 _) ?_
  unfold Builtin.«len»
  refine wpAny_bind (m := oneArg "len" _) (wpAny_pure ?_)
  refine wpAny_bind (m := callSpecial? (.ref a) (PySem.Str.ofString "__len__")) (PySem.W.special_fn I.kIn J hs (beq_iff_eq.mp hf) (wpAny_mono (run_ok (us := [.ref a]) (ws := [.ref a]) F hb hx ?_ I (.cons rfl .nil) q) (fun w s' z => ?_) fun _ _ x => x))
  · exact ⟨hr.in1, rfl⟩
  · obtain ⟨z', H', I', rz, k, rfl, hk, qz⟩ := z
    obtain ⟨t, rfl⟩ := (show ∃ t, w = Value.int k t from rz)
    refine wpAny_bind (wpAny_holding (wpAny_pure ?_))
    refine wpAny_bind (wpAny_letGo ?_)
    show wpAny _ _ (if ((k : Nat) : Int) < 0 then _ else _) _ _ _
    rw [if_neg (by omega)]
    show wpAny _ _ (if ((k : Nat) : Int) ≥ 2 ^ 63 then _ else _) _ _ _
    rw [if_neg (by omega)]
    exact wpAny_bind (wpAny_mkInt (wpAny_pure ⟨_, rfl, .int k, H', I'.tok _, ⟨_, rfl⟩, qz⟩))
end
end Vf
set_option Elab.async false
set_option linter.all false
set_option maxRecDepth 100000
set_option maxHeartbeats 4000000
namespace Vf
open PySem L2 PyProof.Rows
def stepG (gs : List (List Int)) (L : List Nat) (s : Int) (c : Nat) : Int := (gs.getD s.toNat []).getD (L.idxOf c) 0
def walkG (gs : List (List Int)) (L : List Nat) (s : Int) (y : List Nat) : Int := y.foldl (stepG gs L) s
theorem walkG_more {gs : List (List Int)} {L y : List Nat} {s : Int} {i : Nat} (h : i < y.length) : walkG gs L s (y.take (i + 1)) = stepG gs L (walkG gs L s (y.take i)) y[i] := by
  unfold walkG
  rw [take_more h, List.foldl_append]
  rfl
theorem atG {m : Nat} {gs : List (List Int)} {s : Int} {k : Nat} (g : GoodRows m gs) (h0 : 0 ≤ s) (h1 : s < gs.length) (hk : k < m) : ∃ (g1 : s.toNat < gs.length) (g2 : k < gs[s.toNat].length), 0 ≤ gs[s.toNat][k] ∧ gs[s.toNat][k] < gs.length := by
  have g1 : s.toNat < gs.length := by omega
  have hb := g.1 s.toNat g1
  unfold badG at hb
  have e1 : gs[s.toNat].length = m := Classical.byContradiction fun q => hb (Or.inl q)
  have g2 : k < gs[s.toNat].length := by rw [e1]; exact hk
  have e2 : 0 ≤ gs[s.toNat][k] ∧ gs[s.toNat][k] < gs.length := Classical.byContradiction fun q => hb (Or.inr ⟨_, List.getElem_mem g2, q⟩)
  exact ⟨g1, g2, e2.1, e2.2⟩
theorem stepG_eq {gs : List (List Int)} {L : List Nat} {s : Int} {c : Nat} (g1 : s.toNat < gs.length) (g2 : L.idxOf c < gs[s.toNat].length) : stepG gs L s c = gs[s.toNat][L.idxOf c] := by
  have e : gs.getD s.toNat [] = gs[s.toNat] := by rw [List.getD_eq_getElem?_getD, List.getElem?_eq_getElem g1, Option.getD_some]
  unfold stepG
  rw [e, List.getD_eq_getElem?_getD, List.getElem?_eq_getElem g2, Option.getD_some]
theorem stepG_ok {gs : List (List Int)} {L : List Nat} {s : Int} {c : Nat} (g : GoodRows L.length gs) (h0 : 0 ≤ s) (h1 : s < gs.length) (hc : c ∈ L) : 0 ≤ stepG gs L s c ∧ stepG gs L s c < gs.length := by
  obtain ⟨g1, g2, g3, g4⟩ := atG g h0 h1 (idx_lt hc)
  rw [stepG_eq g1 g2]
  exact ⟨g3, g4⟩
theorem walkG_ok {gs : List (List Int)} {L : List Nat} (g : GoodRows L.length gs) : ∀ {y : List Nat} {s : Int}, 0 ≤ s → s < gs.length → (∀ c ∈ y, c ∈ L) → 0 ≤ walkG gs L s y ∧ walkG gs L s y < gs.length
  | [], s, h0, h1, _ => ⟨h0, h1⟩
  | c :: y, s, h0, h1, hy => by
    obtain ⟨a, b⟩ := stepG_ok g h0 h1 (hy c List.mem_cons_self)
    exact walkG_ok (s := stepG gs L s c) (y := y) g a b fun d hd => hy d (List.mem_cons_of_mem _ hd)
theorem ShapeAt.same {K : PySem.W.Frag} {C o : Addr} {H H' : Hp} {z : Str} {rs : List (List Int)} {es : List Int} (c : ShapeAt K C H o z rs es) (s : Same H H') : ShapeAt K C H' o z rs es := by
  obtain ⟨dx, R, E, h1, h2, h3⟩ := c
  exact ⟨dx, R, E, s _ _ h1, h2.mv (Kl.same s), h3.mv (Kl.same s)⟩
theorem strange_none {z y : Str} (h : strange z y = none) : ∀ c ∈ TL.tl y, c ∈ TL.tl z := fun c hc => by
  have := List.findIdx?_eq_none_iff.mp h c hc
  simpa using this
theorem inV_int (x : Int) : ∀ es : List Int, inV (.int x) (es.map V.int) = decide (x ∈ es)
  | [] => rfl
  | e :: es => by
    have ih := inV_int x es
    unfold inV at ih ⊢
    rw [List.map_cons, List.any_cons, ih, Bool.eq_iff_iff]
    by_cases h : x = e
    · subst h; simp [eqV]
    · have h2 : ¬ e = x := fun q => h q.symm
      simp [eqV, h, h2]
theorem flat_ints (es : List Int) : (es.map V.int).all flatV = true := by
  rw [List.all_map, List.all_eq_true]
  exact fun _ _ => rfl
/-- what the methods ask of the class -/
structure TxtSM (K : PySem.W.Frag) (mg : Str → Option Value) (C fCG fCD B CB fB' fSP fSt fEq fLn : Addr) : Prop extends TxtS K mg C fCG fCD B CB fB' where
  mstrange_place : mg "strange_place" = some (.ref fSP)
  kstrange_place : PySem.W.keepIn K (.ref fSP) = true
  mtSt : Meth K C "step" fSt
  isinstance : mg "isinstance" = none
  ca : PySem.W.findIn K (.ref C) "__class__" = some (some (.builtin "object.__class__"))
  cn : PySem.W.specialIn K (.builtin "object.__class__") "__get__" = some (some (.builtin "getset_descriptor.__get__"))
  ct : PySem.W.takesIn K (.builtin "object.__class__") = some true
  cm : PySem.W.mroIn K C (.type "object") = some true
  kc : PySem.W.kitOne K (.ref C) (.ref C) = some true
  eqs : PySem.W.findIn K (.ref C) "__eq__" = some (some (.ref fEq))
  eqf : PySem.W.isFn K (.ref fEq) = true
  lns : PySem.W.findIn K (.ref C) "__len__" = some (some (.ref fLn))
  lnf : PySem.W.isFn K (.ref fLn) = true
section
variable {P : Program} {w : World} {K : PySem.W.Frag} {mg : Str → Option Value} {base : Heap}
def spLnS (K : PySem.W.Frag) (C : Addr) : Sp := fun vs H Q _ => ∃ (o : Addr) (z : Str) (rs : List (List Int)) (es : List Int), vs = [.ref o] ∧ ShapeAt K C H o z rs es ∧ ∀ H', Same H H' → Q (.int rs.length) H'
abbrev s_Shape___len__ : Stmt := inClass (top 12) 2
abbrev N_Shape___len__ : List Str := ["self"]
abbrev P_Shape___len__ : List Str := ["self"]
theorem sc_Shape___len__ : FnScope N_Shape___len__ P_Shape___len__ (defScope s_Shape___len__) := ⟨rfl, rfl, rfl, by decide +kernel, rfl, by decide +kernel, by decide +kernel⟩

theorem ok_lnS {f C fCG fCD B CB fB' : Addr} {fd : FuncData} (F : Fun K "__len__" "Shape.__len__" s_Shape___len__ f fd) (T : TxtS K mg C fCG fCD B CB fB') : FnOk P w K mg base CX0 1 f fd P_Shape___len__ (spLnS K C) := by
  refine F.ok sc_Shape___len__ (fun vs H Q E h => ?_) (fun cdv A outer s H vs Q E hr h => ?_)
  · obtain ⟨o, z, rs, es, rfl, _⟩ := h
    rfl
  · obtain ⟨o, z, rs, es, rfl, ⟨dx, R, Ev, ho, hR, hE⟩, k⟩ := h
    refine ⟨_, (pss_one (ps_ret (pe_callB call_len (by rfl) T.len PySem.boot_len (pa_cons (pe_fld (pv 0) rfl) pa_nil)))), ?_⟩
    obtain ⟨r, xs, rfl, h1, h2⟩ := hR.tupE
    refine ⟨_, rfl, o, C, dx, _, _, rfl, ho, T.cl, T.nR, sf_rows _ _ _, _, _, rfl, Or.inr ⟨_, h1, rfl⟩, ?_⟩
    rw [show xs.length = rs.length by rw [h2.length, List.length_map]]
    exact k H (Same.refl H)
def spEqS (K : PySem.W.Frag) (C : Addr) : Sp := fun vs H Q _ => ∃ (o o2 : Addr) (z z2 : Str) (rs rs2 : List (List Int)) (es es2 : List Int), vs = [.ref o, .ref o2] ∧ ShapeAt K C H o z rs es ∧ ShapeAt K C H o2 z2 rs2 es2 ∧
  ∀ H', Same H H' → Q (.bl (decide (z = z2) && (decide (rs = rs2) && decide (es = es2)))) H'
abbrev s_Shape___eq__ : Stmt := inClass (top 12) 1
abbrev N_Shape___eq__ : List Str := ["self", "other"]
abbrev P_Shape___eq__ : List Str := ["self", "other"]
theorem sc_Shape___eq__ : FnScope N_Shape___eq__ P_Shape___eq__ (defScope s_Shape___eq__) := ⟨rfl, rfl, rfl, by decide +kernel, rfl, by decide +kernel, by decide +kernel⟩

theorem ok_eqS {f C fCG fCD B CB fB' fSP fSt fEq fLn : Addr} {fd : FuncData} (F : Fun K "__eq__" "Shape.__eq__" s_Shape___eq__ f fd) (T : TxtSM K mg C fCG fCD B CB fB' fSP fSt fEq fLn) : FnOk P w K mg base CX0 1 f fd P_Shape___eq__ (spEqS K C) := by
  refine F.ok sc_Shape___eq__ (fun vs H Q E h => ?_) (fun cdv A outer s H vs Q E hr h => ?_)
  · obtain ⟨o, o2, z, z2, rs, rs2, es, es2, rfl, _⟩ := h
    rfl
  · obtain ⟨o, o2, z, z2, rs, rs2, es, es2, rfl, ⟨dx, R, Ev, ho, hR, hE⟩, ⟨dx2, R2, Ev2, ho2, hR2, hE2⟩, k⟩ := h
    refine ⟨_, (pss_one (ps_ret (pe_and (pe_callB call_isi (by rfl) T.isinstance boot_isinstance (pa_cons (pv 1) (pa_cons (pe_glob (by rfl) T.mgShape (v := .ref C) rfl) pa_nil))) (pe_and (pe_cmpR op_eq (pe_fld (pv 0) rfl) (pe_fld (pv 1) rfl) (nomark _)) (pe_and (pe_cmpR (op_eqD hr.units) (pe_fld (pv 0) rfl) (pe_fld (pv 1) rfl) (nomark _)) (pe_one (pe_cmpR (op_eqD hr.units) (pe_fld (pv 0) rfl) (pe_fld (pv 1) rfl) (nomark _)))))))), ?_⟩
    refine ⟨_, rfl, _, _, _, _, _, rfl, .own C, .base (.ins ho2 T.cl T.ca T.cn T.ct T.cm), T.kc, true, rfl, ?_⟩
    rw [if_pos rfl]
    refine ⟨_, rfl, o, C, dx, _, _, rfl, ho, T.cl, T.nL, sf_letters _ _ _, _, rfl, o2, C, dx2, _, _, rfl, ho2, T.cl, T.nL, sf_letters _ _ _, rfl, _, rfl, ?_⟩
    by_cases hz : z = z2
    · rw [if_pos (decide_eq_true (congrArg V.str hz))]
      refine ⟨_, rfl, o, C, dx, _, _, rfl, ho, T.cl, T.nR, sf_rows _ _ _, _, rfl, o2, C, dx2, _, _, rfl, ho2, T.cl, T.nR, sf_rows _ _ _, rowsIT rs, rowsIT rs2, hR, hR2, shaped_rowsIT _, shaped_rowsIT _, _, rfl, ?_⟩
      rw [eqv_rowsIT]
      by_cases hr2 : rs = rs2
      · rw [if_pos (decide_eq_true hr2)]
        refine ⟨_, rfl, o, C, dx, _, _, rfl, ho, T.cl, T.nG, sf_good _ _ _, _, rfl, o2, C, dx2, _, _, rfl, ho2, T.cl, T.nG, sf_good _ _ _, intsT es, intsT es2, hE, hE2, shaped_intsT _, shaped_intsT _, ?_⟩
        rw [eqv_intsT]
        have := k H (Same.refl H)
        rw [decide_eq_true hz, decide_eq_true hr2, Bool.true_and, Bool.true_and] at this
        exact this
      · rw [if_neg (by simpa using hr2)]
        have := k H (Same.refl H)
        rw [decide_eq_true hz, decide_eq_false hr2, Bool.true_and, Bool.false_and] at this
        exact this
    · rw [if_neg (by simpa using hz)]
      have := k H (Same.refl H)
      rw [decide_eq_false hz, Bool.false_and] at this
      exact this
def spStepS (K : PySem.W.Frag) (C : Addr) : Sp := fun vs H Q _ => ∃ (o : Addr) (s : Int) (z : Str) (c : Nat) (gs : List (List Int)) (es : List Int), vs = [.ref o, .int s, .str (sg c)] ∧ ShapeAt K C H o z gs es ∧ GoodRows z.length gs ∧ c ∈ TL.tl z ∧ 0 ≤ s ∧ s < gs.length ∧
  ∀ H', Same H H' → Q (.int (stepG gs (TL.tl z) s c)) H'
abbrev s_Shape_step : Stmt := inClass (top 12) 6
abbrev N_Shape_step : List Str := ["self", "state", "value"]
abbrev P_Shape_step : List Str := ["self", "state", "value"]
theorem sc_Shape_step : FnScope N_Shape_step P_Shape_step (defScope s_Shape_step) := ⟨rfl, rfl, rfl, by decide +kernel, rfl, by decide +kernel, by decide +kernel⟩

theorem ok_stepS {f C fCG fCD B CB fB' : Addr} {fd : FuncData} (F : Fun K "step" "Shape.step" s_Shape_step f fd) (T : TxtS K mg C fCG fCD B CB fB') : FnOk P w K mg base CX0 1 f fd P_Shape_step (spStepS K C) := by
  refine F.ok sc_Shape_step (fun vs H Q E h => ?_) (fun cdv A outer s H vs Q E hr h => ?_)
  · obtain ⟨o, s, z, c, gs, es, rfl, _⟩ := h
    rfl
  · obtain ⟨o, s0, z, c, gs, es, rfl, ⟨dx, R, Ev, ho, hR, hE⟩, hg, hc, h0, h1, k⟩ := h
    refine ⟨_, (pss_one (ps_ret (pe_ix ix_tup (pe_ix ix_tup (pe_fld (pv 0) rfl) (pv 1) (fun _ _ => rfl)) (pe_m1 PySem.F.slot_str_find PySem.F.type_str_find mt_find (pe_fld (pv 0) rfl) (pv 2)) (fun _ _ => rfl)))), ?_⟩
    obtain ⟨ra, xs, rfl, hR1, hR2⟩ := hR.tupE
    have lz : (TL.tl z).length = z.length := (TL.len_tl z).symm
    obtain ⟨g1, g2, g3, g4⟩ := atG (k := (TL.tl z).idxOf c) hg h0 h1 (by rw [← lz]; exact idx_lt hc)
    obtain ⟨v, hv, hrow⟩ := hR2.get (i := s0.toNat) (d := intsT gs[s0.toNat]) (by rw [List.getElem?_map, List.getElem?_eq_getElem g1]; rfl)
    obtain ⟨w5, ts, rfl, hw1, hw2⟩ := hrow.tupE
    obtain rfl := dpAll_intsE hw2
    refine ⟨_, rfl, o, C, dx, _, _, rfl, ho, T.cl, T.nR, sf_rows _ _ _, _, rfl, ra, xs, s0, _, rfl, rfl, hR1, at_of (Int.toNat_of_nonneg h0).symm hv, ?_⟩
    refine ⟨_, rfl, o, C, dx, _, _, rfl, ho, T.cl, T.nL, sf_letters _ _ _, ⟨_, rfl⟩, _, rfl, z, sg c, rfl, rfl, ?_⟩
    rw [find_sg hc]
    refine ⟨w5, _, _, .int (gs[s0.toNat][(TL.tl z).idxOf c]), rfl, rfl, hw1, at_of rfl (by rw [List.getElem?_map, List.getElem?_eq_getElem g2]; rfl), ?_⟩
    have := k H (Same.refl H)
    rw [stepG_eq g1 g2] at this
    exact this
def spHas (K : PySem.W.Frag) (C : Addr) : Sp := fun vs H Q _ => ∃ (o : Addr) (z y : Str) (gs : List (List Int)) (es : List Int), vs = [.ref o, .str y] ∧ ShapeAt K C H o z gs es ∧ GoodRows z.length gs ∧
  ((∃ i, strange z y = some i) → ∀ H', Same H H' → Q (.bl false) H') ∧ (strange z y = none → ∀ H', Same H H' → Q (.bl (decide (walkG gs (TL.tl z) 0 (TL.tl y) ∈ es))) H')
abbrev s_Shape_has : Stmt := inClass (top 12) 5
abbrev N_Shape_has : List Str := ["self", "column", "state", "letter"]
abbrev P_Shape_has : List Str := ["self", "column"]
theorem sc_Shape_has : FnScope N_Shape_has P_Shape_has (defScope s_Shape_has) := ⟨rfl, rfl, rfl, by decide +kernel, rfl, by decide +kernel, by decide +kernel⟩

theorem ok_has {f C fCG fCD B CB fB' fSP fSt fEq fLn : Addr} {fd fdSP fdSt : FuncData} (F : Fun K "has" "Shape.has" s_Shape_has f fd) (T : TxtSM K mg C fCG fCD B CB fB' fSP fSt fEq fLn) (FSP : Fun K "strange_place" "strange_place" s_strange_place fSP fdSP) (bstrange_place : Binds K fdSP P_strange_place [])
    (FSt : Fun K "step" "Shape.step" s_Shape_step fSt fdSt) (bSt : Binds K fdSt P_Shape_step []) : FnOk P w K mg base CX0 2 f fd P_Shape_has (spHas K C) := by
  have Gstrange_place : FnOk P w K mg base CX0 1 fSP fdSP P_strange_place spStrange := ok_strange FSP ⟨T.enumerate⟩
  have GSt : FnOk P w K mg base CX0 1 fSt fdSt P_Shape_step (spStepS K C) := ok_stepS FSt T.toTxtS
  refine F.ok sc_Shape_has (fun vs H Q E h => ?_) (fun cdv A outer s H vs Q E hr h => ?_)
  · obtain ⟨o, z, y, gs, es, rfl, _⟩ := h
    rfl
  · obtain ⟨o, z, y, gs, es, rfl, hS, hg, k1, k2⟩ := h
    refine ⟨_, (pss_cons (ps_if (pt_cmpR op_notN (pe_call Gstrange_place (hr.mono (by decide)) (by rfl) T.mstrange_place T.kstrange_place bstrange_place .nil pass0 (pa_cons (pe_fld (pv 0) rfl) (pa_cons (pv 1) pa_nil))) pe_non (nomark _)) (pss_one (ps_ret pe_bl)) pss_nil)
      (pss_cons (ps_set (i := 2) sc_Shape_has.nd rfl (Or.inl rfl) pe_int)
      (pss_cons (ps_for PassesOwn.never rfl (pi_str (pv 1)) (pg_name (i := 3) sc_Shape_has.nd rfl (Or.inl rfl)) (pss_one (ps_set (i := 2) sc_Shape_has.nd rfl (Or.inl rfl) (pe_meth (pv 0) T.cl T.mtSt GSt (hr.mono (by decide)) bSt .nil pass0 (pa_cons (pv 2) (pa_cons (pv 3) pa_nil))))))
      (pss_one (ps_ret (pe_cmpR op_in_seq (pv 2) (pe_fld (pv 0) rfl) (by rfl))))))), ?_⟩
    obtain ⟨dx, R, Ev, ho, hR, hE⟩ := id hS
    have lz : (TL.tl z).length = z.length := (TL.len_tl z).symm
    refine ⟨_, rfl, o, C, dx, _, _, rfl, ho, T.cl, T.nL, sf_letters _ _ _, _, rfl, z, y, rfl, fun H1 s1 => ?_⟩
    refine ⟨rfl, _, rfl, ?_⟩
    cases hs : strange z y with
    | some i => exact k1 ⟨i, hs⟩ H1 s1
    | none =>
      have hy := strange_none hs
      refine ⟨_, rfl, y, rfl, for_it walk_strS (fun i σ H2 => ∃ v3 : Option V, σ = [some (.ref o), some (.str y), some (.int (walkG gs (TL.tl z) 0 ((TL.tl y).take i))), v3] ∧ Same H H2)
        ⟨none, rfl, s1⟩ (fun _ _ _ _ _ => trivial) ?_ ?_⟩
      · rintro i x σ H3 H2 hi ⟨v3, rfl, s2⟩ ⟨rfl, c, hc, rfl⟩
        obtain ⟨hlt, hce⟩ := List.getElem?_eq_some_iff.mp hc
        have hcz : c ∈ TL.tl z := hy c (by rw [← hce]; exact List.getElem_mem hlt)
        have hg' : GoodRows (TL.tl z).length gs := by rw [lz]; exact hg
        obtain ⟨a0, a1⟩ := walkG_ok (s := 0) (y := (TL.tl y).take i) hg' (Int.le_refl 0) (by have := hg.2; omega) fun d hd => hy d (List.mem_of_mem_take hd)
        refine ⟨_, rfl, o, dx, _, rfl, s2 _ _ ho, sf_no _ _ _ (by decide +kernel) (by decide +kernel) (by decide +kernel), _, rfl, _, rfl, o, _, z, c, gs, es, rfl, hS.same s2, hg, hcz, a0, a1, fun H4 s4 => ?_⟩
        refine ⟨some (.str (sg c)), ?_, s2.trans s4⟩
        rw [walkG_more hlt, hce]
        rfl
      · rintro σ H2 ⟨v3, rfl, s2⟩
        obtain ⟨dx', R', Ev', ho', hR', hE'⟩ := hS.same s2
        obtain ⟨e, xs, rfl, he1, he2⟩ := hE'.tupE
        obtain rfl := dpAll_intsE he2
        refine ⟨_, rfl, _, rfl, o, C, dx', _, _, rfl, ho', T.cl, T.nG, sf_good _ _ _, e, _, rfl, Or.inr he1, rfl, flat_ints es, ?_⟩
        have := k2 hs H2 s2
        rw [TL.len_tl, List.take_length, ]
        show Q (.bl (inV _ _)) H2
        rw [inV_int]
        exact this
end
end Vf
set_option Elab.async false
set_option linter.all false
set_option maxRecDepth 100000
set_option maxHeartbeats 4000000
namespace Vf
open PySem L2 PyProof.Rows
section
variable {P : Program} {w : World} {K : PySem.W.Frag} {mg : Str → Option Value} {base : Heap}
/-- the pick too -/
structure TxtP (K : PySem.W.Frag) (mg : Str → Option Value) (fD fP : Addr) : Prop extends TxtD K mg fD where
  m_law_pick : mg "_law_pick" = some (.ref fP)
  k_law_pick : PySem.W.keepIn K (.ref fP) = true
abbrev s__law_letters : Stmt := top 20
abbrev N__law_letters : List Str := ["_law_pen_here", "_law_many", "_law_left", "_law_found", "_law_turn", "_law_at"]
abbrev P__law_letters : List Str := ["_law_pen_here", "_law_many"]
theorem sc__law_letters : FnScope N__law_letters P__law_letters (defScope s__law_letters) := ⟨rfl, rfl, rfl, by decide +kernel, rfl, by decide +kernel, by decide +kernel⟩

theorem ok_letters {f fD : Addr} {fd fdD : FuncData} (F : Fun K "_law_letters" "_law_letters" s__law_letters f fd) (T : TxtD K mg fD) (FD : Fun K "_law_draw" "_law_draw" s__law_draw fD fdD) (b_law_draw : Binds K fdD P__law_draw []) : FnOk P w K mg base CX0 2 f fd P__law_letters spLetters := by
  have G_law_draw : FnOk P w K mg base CX0 1 fD fdD P__law_draw spDraw := ok_draw FD T.toTxtA
  refine F.ok sc__law_letters (fun vs H Q E h => ?_) (fun cdv A outer s H vs Q E hr h => ?_)
  · obtain ⟨p, c, m, n, rfl, _⟩ := h
    rfl
  · obtain ⟨p, c, m, n, rfl, hp, hn, hm, k⟩ := h
    refine ⟨_, (pss_cons (ps_par (i := 2) (j := 3) (by rfl) sc__law_letters.nd rfl rfl (by decide) rfl rfl (pa_cons pe_str (pa_cons (pe_lst pa_nil) pa_nil)) (by rfl))
      (pss_cons (ps_for PassesOwn.never rfl (pi_range1 (by rfl) T.range (pa_cons (pv 1) pa_nil)) (pg_name (i := 4) sc__law_letters.nd rfl (Or.inl rfl)) (pss_cons (ps_set (i := 5) sc__law_letters.nd rfl (Or.inl rfl) (pe_call G_law_draw (hr.mono (by decide)) (by rfl) T.m_law_draw T.k_law_draw b_law_draw .nil pass0 (pa_cons (pv 0) (pa_cons (pe_callB call_len (by rfl) T.len PySem.boot_len (pa_cons (pv 2) pa_nil)) pa_nil))))
      (pss_cons (ps_set (i := 3) sc__law_letters.nd rfl (Or.inl rfl) (pe_op op_cat (pv 3) (pe_lst (pa_cons (pe_ix ix_str (pv 2) (pv 5) (fun _ _ => rfl)) pa_nil))))
      (pss_one (ps_set (i := 2) sc__law_letters.nd rfl (Or.inl rfl) (pe_op op_add_str (pe_slice sl_str (pv 2) po_none (po_some (pv 5))) (pe_slice sl_str (pv 2) (po_some (pe_op op_add (pv 5) pe_int)) po_none)))))))
      (pss_one (ps_ret (pe_join pe_str (pe_callB cr_sortedS (by rfl) T.sorted boot_sorted (pa_cons (pv 3) pa_nil))))))), ?_⟩
    refine ⟨by show 0 ≤ sizeLine; decide, fun F0 hF => ⟨_, _, rfl, ?_⟩⟩
    have hFp : F0 ≠ p := by
      obtain ⟨kvs, hd⟩ := hp.dk
      exact (ne_of_none hd hF).symm
    refine ⟨_, rfl, (m : Int), rfl, by omega, by omega, for_range (n := m) (fun i σ H1 => ∃ (F1 : Addr) (L : Str) (fs : List Nat) (v4 v5 : Option V), σ = [some (.ref p), some (.int m), some (.str L), some (.ref F1), v4, v5] ∧
      H1 F1 = some (.lst ((fs.map sg).map V.str)) ∧ fs.length = i ∧ (fs ++ TL.tl L).Perm alpha ∧ Pen H1 p c (n + i) ∧ Kp p H H1)
      ⟨F0, _, [], none, none, rfl, upd_same, rfl, List.Perm.refl _, hp.same (same_new hF), Kp.of (same_new hF)⟩ ?_ ?_⟩
    · rintro i σ H1 hi ⟨F1, L, fs, v4, v5, rfl, hF1, hlen, hperm, hp1, kk⟩
      have hL : L.length = 26 - i := by
        have := hperm.length_eq
        rw [List.length_append, alpha_len, ← TL.len_tl] at this
        omega
      have hLz : L.length ≤ sizeLine := Nat.le_of_lt (small1000 (by omega))
      refine ⟨_, rfl, _, rfl, _, _, rfl, ⟨hLz, rfl⟩, p, c, _, n + i, rfl, hp1, by omega, by omega, by omega, fun d H2 d0 d1 hp2 kk2 => ?_⟩
      have hj : d.toNat < (TL.tl L).length := by rw [← TL.len_tl]; omega
      have hF2 : H2 F1 = some (.lst ((fs.map sg).map V.str)) := by
        obtain ⟨kvs, hd⟩ := hp1.dk
        exact kk2 _ _ hF1 (ne_of hF1 hd (by intro z; cases z))
      have ed : d = (d.toNat : Int) := (Int.toNat_of_nonneg d0).symm
      refine ⟨_, rfl, _, rfl, _, rfl, L, d, _, rfl, rfl, hLz, at_of' ed (List.getElem?_eq_getElem hj), (by show 1 ≤ sizeLine; decide), fun q hq => ?_⟩
      have s2 : Same H2 (L2.upd H2 q (.lst [V.str (sg (TL.tl L)[d.toNat])])) := same_new hq
      refine ⟨F1, q, _, _, rfl, rfl, s2 _ _ hF2, upd_same, (by rw [List.length_map, List.length_map]; show fs.length + 1 ≤ sizeLine; exact Nat.le_of_lt (small1000 (by omega))), fun r hr2 => ?_⟩
      have s3 : Same H2 (L2.upd (L2.upd H2 q (.lst [V.str (sg (TL.tl L)[d.toNat])])) r (.lst ((fs.map sg).map V.str ++ [V.str (sg (TL.tl L)[d.toNat])]))) := s2.trans (same_new hr2)
      -- left = left[:at] + left[at + 1:]
      have hjl : d.toNat < L.length := by omega
      have t1 : TL.tl (cutS L none (some d)) = (TL.tl L).take d.toNat := by rw [ed]; exact cut_to (by omega)
      have t2 : TL.tl (cutS L (some (d + 1)) none) = (TL.tl L).drop (d.toNat + 1) := by
        have e1 : d + 1 = ((d.toNat + 1 : Nat) : Int) := by omega
        rw [e1]; exact cut_from (by omega)
      refine ⟨_, rfl, _, rfl, d, rfl, L, rfl, hLz, _, rfl, _, rfl, _, _, rfl, rfl, _, rfl, L, rfl, hLz, _, _, rfl, rfl, ?_, ?_⟩
      · rw [TL.len_tl, TL.len_tl, t1, t2, List.length_take, List.length_drop, ← TL.len_tl, sizeLine_eq]
        rw [sizeLine_eq] at hLz
        omega
      · refine ⟨r, _, fs ++ [(TL.tl L)[d.toNat]], _, _, rfl, ?_, ?_, ?_, ?_, ?_⟩
        · rw [upd_same, List.map_append, List.map_append]; rfl
        · rw [List.length_append, hlen]; rfl
        · rw [TL.tl_append, t1, t2]
          have e2 : (TL.tl L).take d.toNat ++ ((TL.tl L)[d.toNat]'hj) :: (TL.tl L).drop (d.toNat + 1) = TL.tl L := by
            rw [← List.drop_eq_getElem_cons hj, List.take_append_drop]
          refine List.Perm.trans ?_ hperm
          conv => rhs; rw [← e2]
          rw [List.append_assoc]
          exact List.Perm.append_left _ (List.perm_middle (a := (TL.tl L)[d.toNat]'hj) (l₁ := (TL.tl L).take d.toNat) (l₂ := (TL.tl L).drop (d.toNat + 1))).symm
        · exact hp2.same s3
        · exact kk.trans (kk2.trans (Kp.of s3))
    · rintro σ H1 ⟨F1, L, fs, v4, v5, rfl, hF1, hlen, hperm, hp1, kk⟩
      refine ⟨⟨_, rfl⟩, _, rfl, F1, fs.map sg, rfl, SqL.of hF1, by rw [List.length_map]; omega, fun ys q hperm2 hsort hq => ?_⟩
      obtain ⟨ds, rfl, hd⟩ := perm_sg hperm2
      have hl := ltr_of hperm hd (sorted_sg hsort)
      have hdl : ds.length = m := hd.length_eq.trans hlen
      refine ⟨_, q, ds.map sg, rfl, rfl, Or.inl (SqL.of upd_same), ?_, ?_⟩
      · rw [sum_sg]
        show ds.length + (ds.map sg).length * 0 ≤ 16777216
        omega
      · have e : TL.tl (Txt.join (Str.ofString "") (ds.map sg)) = ds := join_sg ds
        refine k _ _ ⟨by rw [TL.len_tl, e]; exact hdl, by rw [e]; exact hl.1, by rw [e]; exact hl.2⟩ (hp1.same (same_new hq)) (kk.trans (Kp.of (same_new hq)))
end
end Vf
set_option Elab.async false
set_option linter.all false
set_option maxRecDepth 100000
set_option maxHeartbeats 4000000
namespace Vf
open PySem L2 PyProof.Rows
section
variable {P : Program} {w : World} {K : PySem.W.Frag} {mg : Str → Option Value} {base : Heap}
/-- a drawn column -/
def spCol : Sp := fun vs H Q _ => ∃ (p c : Addr) (z : Str) (most n : Nat), vs = [.ref p, .str z, .int most] ∧ Pen H p c n ∧ n ≤ 2 ^ 29 ∧ most ≤ 100 ∧ 0 < z.length ∧ z.length ≤ 26 ∧
  ∀ (y : Str) (H' : Hp), y.length ≤ most → (∀ x ∈ TL.tl y, x ∈ TL.tl z) → Pen H' p c (n + 300) → Kp p H H' → Q (.str y) H'
abbrev s__law_column : Stmt := top 23
abbrev N__law_column : List Str := ["_law_pen_here", "_law_letters_here", "_law_most", "_law_many", "_law_found", "_law_place", "_law_again"]
abbrev P__law_column : List Str := ["_law_pen_here", "_law_letters_here", "_law_most"]
theorem sc__law_column : FnScope N__law_column P__law_column (defScope s__law_column) := ⟨rfl, rfl, rfl, by decide +kernel, rfl, by decide +kernel, by decide +kernel⟩

theorem ok_col {f fD fP : Addr} {fd fdD fdP : FuncData} (F : Fun K "_law_column" "_law_column" s__law_column f fd) (T : TxtP K mg fD fP) (FD : Fun K "_law_draw" "_law_draw" s__law_draw fD fdD) (b_law_draw : Binds K fdD P__law_draw [])
    (FP : Fun K "_law_pick" "_law_pick" s__law_pick fP fdP) (b_law_pick : Binds K fdP P__law_pick []) : FnOk P w K mg base CX0 3 f fd P__law_column spCol := by
  have G_law_draw : FnOk P w K mg base CX0 1 fD fdD P__law_draw spDraw := ok_draw FD T.toTxtA
  have G_law_pick : FnOk P w K mg base CX0 2 fP fdP P__law_pick spPickS := ok_pickS FP T.toTxtD FD b_law_draw
  refine F.ok sc__law_column (fun vs H Q E h => ?_) (fun cdv A outer s H vs Q E hr h => ?_)
  · obtain ⟨p, c, z, most, n, rfl, _⟩ := h
    rfl
  · obtain ⟨p, c, z, most, n, rfl, hp, hn, hm, hz0, hz, k⟩ := h
    refine ⟨_, (pss_cons (ps_par (i := 3) (j := 4) (by rfl) sc__law_column.nd rfl rfl (by decide) rfl rfl (pa_cons (pe_call G_law_draw (hr.mono (by decide)) (by rfl) T.m_law_draw T.k_law_draw b_law_draw .nil pass0 (pa_cons (pv 0) (pa_cons (pe_op op_add (pv 2) pe_int) pa_nil))) (pa_cons pe_str pa_nil)) (by rfl))
      (pss_cons (ps_for PassesOwn.never rfl (pi_range1 (by rfl) T.range (pa_cons (pv 3) pa_nil)) (pg_name (i := 5) sc__law_column.nd rfl (Or.inl rfl)) (pss_cons (ps_set (i := 6) sc__law_column.nd rfl (Or.inl rfl) (pe_and (pe_cmpR op_ne (pv 4) pe_str (nomark _)) (pe_one (pe_cmpR op_eq (pe_call G_law_draw (hr.mono (by decide)) (by rfl) T.m_law_draw T.k_law_draw b_law_draw .nil pass0 (pa_cons (pv 0) (pa_cons pe_int pa_nil))) pe_int (nomark _)))))
      (pss_one (ps_set (i := 4) sc__law_column.nd rfl (Or.inl rfl) (pe_op op_add_str (pv 4) (pe_ifExp (pt_val (pv 6)) (pe_ix ix_str (pv 4) (pe_un un_neg pe_int) (fun _ _ => rfl)) (pe_call G_law_pick (hr.mono (by decide)) (by rfl) T.m_law_pick T.k_law_pick b_law_pick .nil pass0 (pa_cons (pv 0) (pa_cons (pv 1) pa_nil)))))))))
      (pss_one (ps_ret (pv 4))))), ?_⟩
    refine ⟨_, rfl, _, rfl, _, _, rfl, rfl, p, c, _, n, rfl, hp, by omega, by omega, by omega, fun d H1 d0 d1 hp1 k1 => ⟨_, _, rfl, ?_⟩⟩
    refine ⟨_, rfl, d, rfl, by omega, by omega, for_range (n := d.toNat) (fun i σ H2 => ∃ (y : Str) (v5 v6 : Option V), σ = [some (.ref p), some (.str z), some (.int most), some (.int d), some (.str y), v5, v6] ∧
      y.length = i ∧ (∀ x ∈ TL.tl y, x ∈ TL.tl z) ∧ Pen H2 p c (n + 1 + i * 2) ∧ Kp p H H2) ⟨Str.empty, none, none, rfl, rfl, (fun x hx => nomatch hx), hp1, k1⟩ ?_ ?_⟩
    · rintro i σ H2 hi ⟨y, v5, v6, rfl, hl, hy, hp2, k2⟩
      have hys : y.length ≤ sizeLine := Nat.le_of_lt (small1000 (by omega))
      -- again = found != '' and draw(pen, 3) == 0
      refine ⟨_, rfl, rfl, _, rfl, ite2 (fun c1 => ?_) (fun c1 => ?_)⟩
      · have hne : TL.tl y ≠ [] := by
          intro e
          have : y = Str.empty := TL.ext_tl e
          subst this
          simp at c1
          exact c1 rfl
        have h0 : 0 < y.length := by rw [TL.len_tl]; exact List.length_pos_iff.mpr hne
        refine ⟨_, rfl, p, c, 3, _, rfl, hp2, by omega, by decide, by decide, fun g H3 g0 g1 hp3 k3 => ⟨rfl, ?_⟩⟩
        refine ⟨_, rfl, _, rfl, _, rfl, ite2 (fun c2 => ?_) (fun c2 => ?_)⟩
        · refine ⟨_, rfl, 1, rfl, y, -1, (TL.tl y).getLast hne, rfl, rfl, hys, ?_, _, _, rfl, rfl, ?_, ?_⟩
          · have e := List.dropLast_concat_getLast hne
            have := atI_last (TL.tl y).dropLast ((TL.tl y).getLast hne)
            rw [e] at this
            exact this
          · show y.length + 1 ≤ sizeLine
            exact Nat.le_of_lt (small1000 (by omega))
          · refine ⟨_, _, _, rfl, ?_, ?_, hp3.mono (by omega), k2.trans k3⟩
            · rw [TL.len_tl, TL.tl_append, List.length_append, ← TL.len_tl, hl]; rfl
            · intro x hx
              rw [TL.tl_append] at hx
              rcases List.mem_append.mp hx with h | h
              · exact hy x h
              · have h : x ∈ [(TL.tl y).getLast hne] := h
                rw [List.mem_singleton.mp h]; exact hy _ (List.getLast_mem hne)
        · refine ⟨_, rfl, _, rfl, p, c, z, _, rfl, hp3, by omega, hz0, by omega, fun j x H4 hx hp4 k4 => ?_⟩
          refine ⟨_, _, rfl, rfl, ?_, ?_⟩
          · show y.length + 1 ≤ sizeLine
            exact Nat.le_of_lt (small1000 (by omega))
          · refine ⟨_, _, _, rfl, ?_, ?_, hp4.mono (by omega), (k2.trans k3).trans k4⟩
            · rw [TL.len_tl, TL.tl_append, List.length_append, ← TL.len_tl, hl]; rfl
            · intro x' hx'
              rw [TL.tl_append] at hx'
              rcases List.mem_append.mp hx' with h | h
              · exact hy x' h
              · have h : x' ∈ [x] := h
                rw [List.mem_singleton.mp h]; exact List.mem_of_getElem? hx
      · refine ⟨_, rfl, _, rfl, _, rfl, ite2 (fun c2 => absurd c2 (by simp)) (fun _ => ?_)⟩
        refine ⟨_, rfl, _, rfl, p, c, z, _, rfl, hp2, by omega, hz0, by omega, fun j x H4 hx hp4 k4 => ?_⟩
        refine ⟨_, _, rfl, rfl, ?_, ?_⟩
        · show y.length + 1 ≤ sizeLine
          exact Nat.le_of_lt (small1000 (by omega))
        · refine ⟨_, _, _, rfl, ?_, ?_, hp4.mono (by omega), k2.trans k4⟩
          · rw [TL.len_tl, TL.tl_append, List.length_append, ← TL.len_tl, hl]; rfl
          · intro x' hx'
            rw [TL.tl_append] at hx'
            rcases List.mem_append.mp hx' with h | h
            · exact hy x' h
            · have h : x' ∈ [x] := h
              rw [List.mem_singleton.mp h]; exact List.mem_of_getElem? hx
    · rintro σ H2 ⟨y, v5, v6, rfl, hl, hy, hp2, k2⟩
      exact ⟨_, rfl, k y H2 (by omega) hy (hp2.mono (by omega)) k2⟩
end
end Vf
set_option Elab.async false
set_option linter.all false
set_option maxRecDepth 100000
set_option maxHeartbeats 4000000
/-! keys as data: membership and index in lists of keys -/
namespace Vf
open PySem L2 PyProof.Rows
theorem hu65 {k : Nat} {A : Around} (hr : Room k A) : A.units + 65 < cLine := by have := hr.un; omega
def kD : Key → PyData
  | .inl n => .int n
  | .inr s => .str s
def memD (k : List Key) : PyData := .tuple (k.map kD)
theorem eqv_kD (x y : Key) : PyData.eqv (kD x) (kD y) = decide (x = y) := by
  rw [Bool.eq_iff_iff]
  cases x <;> cases y <;> simp [kD, PyData.eqv]
theorem eqv_memD (x y : List Key) : PyData.eqv (memD x) (memD y) = decide (x = y) := by
  show PyData.eqv (.tuple (x.map kD)) (.tuple (y.map kD)) = _
  rw [PyData.eqv]; exact eqvAll_inj eqv_kD x y
def okK : Key → Prop
  | .inl _ => True
  | .inr s => PyData.strOk s = true
def okM (k : List Key) : Prop := ∀ x ∈ k, okK x
theorem lay_kD {x : Key} (h : okK x) : PyData.canLay0 (kD x) = true := by
  cases x with
  | inl n => simp [kD, PyData.canLay0]
  | inr s => simp only [kD, PyData.canLay0]; exact h
theorem lay_kDs : ∀ {k : List Key}, okM k → PyData.canLayAll0 (k.map kD) = true
  | [], _ => by simp [PyData.canLayAll0]
  | x :: r, h => by
    simp only [List.map_cons, PyData.canLayAll0, Bool.and_eq_true]
    exact ⟨lay_kD (h x List.mem_cons_self), lay_kDs fun y hy => h y (List.mem_cons_of_mem _ hy)⟩
theorem dep_kD (x : Key) : PyData.depth (kD x) ≤ 0 := by cases x <;> simp [kD, PyData.depth]
theorem dep_memD (k : List Key) : PyData.depth (memD k) ≤ 1 := by
  show PyData.depth (.tuple (k.map kD)) ≤ 1
  rw [PyData.depth]; have := depth_all dep_kD k; omega
theorem lay_memDs : ∀ {ks : List (List Key)}, (∀ k ∈ ks, okM k) → PyData.canLayAll0 (ks.map memD) = true
  | [], _ => by simp [PyData.canLayAll0]
  | x :: r, h => by
    simp only [List.map_cons, PyData.canLayAll0, Bool.and_eq_true]
    refine ⟨?_, lay_memDs fun y hy => h y (List.mem_cons_of_mem _ hy)⟩
    show PyData.canLay0 (.tuple (x.map kD)) = true
    simp only [PyData.canLay0]
    exact lay_kDs (h x List.mem_cons_self)
theorem shaped_memD {k : List Key} (h : okM k) : SeqAt.shaped (memD k) = true := shaped_of (n := 1) (by
    show PyData.canLay0 (.tuple (k.map kD)) = true
    simp only [PyData.canLay0]
    exact lay_kDs h) (dep_memD k) (by decide)
theorem shaped_memDs {ks : List (List Key)} (h : ∀ k ∈ ks, okM k) : SeqAt.shaped (.list (ks.map memD)) = true := shaped_of (n := 2) (by
    simp only [PyData.canLay0]
    exact lay_memDs h) (by rw [PyData.depth]; have := depth_all dep_memD ks; omega) (by decide)
theorem dpAll_k {K : PySem.W.Frag} (H : Hp) : ∀ k : List Key, DpAll K H (k.map kV) (k.map kD)
  | [] => .nil
  | .inl n :: k => .cons (.int n) (dpAll_k H k)
  | .inr s :: k => .cons (.str s) (dpAll_k H k)
theorem dp_mem {K : PySem.W.Frag} {H : Hp} {t : Addr} {k : List Key} (h : H t = some (.tup (k.map kV))) : Dp K H (.ref t) (memD k) := .tup (SqT.of h) (dpAll_k H k)

def mkS (l : List Nat) : Str := ⟨l.toArray⟩
theorem tl_mkS (l : List Nat) : TL.tl (mkS l) = l := by simp [mkS, TL.tl]
theorem mkS_tl (y : Str) : mkS (TL.tl y) = y := TL.ext_tl (tl_mkS _)
theorem mkS_snoc (l : List Nat) (c : Nat) : mkS l ++ sg c = mkS (l ++ [c]) := TL.ext_tl (by rw [TL.tl_append, tl_mkS, tl_mkS, sg_tl])
theorem mkS_len (l : List Nat) : (mkS l).length = l.length := by rw [TL.len_tl, tl_mkS]
theorem small13 {n : Nat} (h : n ≤ 100000) : n ≤ sizeLine := Nat.le_trans h (by decide)
/-- keys that are data -/
structure KdD {κ : Type} [DecidableEq κ] (kd : Kd κ) where
  dat : κ → PyData
  ok : κ → Prop
  dp : ∀ {K : PySem.W.Frag} {H : Hp} {v : V} {k : κ}, kd.at_ H v k → Dp K H v (dat k)
  eqv : ∀ a b, PyData.eqv (dat a) (dat b) = decide (a = b)
  lay : ∀ k, ok k → PyData.canLay0 (dat k) = true
  dep : ∀ k, PyData.depth (dat k) ≤ 1
def kddK : KdD kdK where
  dat := kD
  ok := okK
  dp := fun {K H v k} h => by
    cases k with
    | inl n => obtain rfl : v = .int n := h; exact .int n
    | inr s => obtain rfl : v = .str s := h; exact .str s
  eqv := eqv_kD
  lay := fun k h => lay_kD h
  dep := fun k => Nat.le_trans (dep_kD k) (by decide)
def kddT : KdD kdT where
  dat := memD
  ok := okM
  dp := fun {K H v k} h => by
    obtain ⟨b, rfl, hb⟩ := h
    exact dp_mem hb
  eqv := eqv_memD
  lay := fun k h => by
    show PyData.canLay0 (.tuple (k.map kD)) = true
    simp only [PyData.canLay0]
    exact lay_kDs h
  dep := dep_memD
section
variable {κ : Type} [DecidableEq κ] {kd : Kd κ} (D : KdD kd)
theorem KdD.layAll : ∀ {ks : List κ}, (∀ k ∈ ks, D.ok k) → PyData.canLayAll0 (ks.map D.dat) = true
  | [], _ => by simp [PyData.canLayAll0]
  | x :: r, h => by
    simp only [List.map_cons, PyData.canLayAll0, Bool.and_eq_true]
    exact ⟨D.lay x (h x List.mem_cons_self), KdD.layAll fun y hy => h y (List.mem_cons_of_mem _ hy)⟩
theorem KdD.shaped {k : κ} (h : D.ok k) : SeqAt.shaped (D.dat k) = true := shaped_of (n := 1) (D.lay k h) (D.dep k) (by decide)
theorem KdD.shapeds {ks : List κ} (h : ∀ k ∈ ks, D.ok k) : SeqAt.shaped (.list (ks.map D.dat)) = true := shaped_of (n := 2) (by
    simp only [PyData.canLay0]
    exact D.layAll h) (by rw [PyData.depth]; have := depth_all D.dep ks; omega) (by decide)
theorem KdD.any (ks : List κ) (k : κ) : ((ks.map D.dat).any fun z => PyData.eqv z (D.dat k)) = true ↔ k ∈ ks := by
  simp only [List.any_map, List.any_eq_true, Function.comp_apply, D.eqv, decide_eq_true_eq]
  exact ⟨fun ⟨x, hx, e⟩ => by rw [← e]; exact hx, fun h => ⟨k, h, rfl⟩⟩
theorem KdD.dps {K : PySem.W.Frag} {H : Hp} : ∀ {vs : List V} {ks : List κ}, Forall2 (kd.at_ H) vs ks → DpAll K H vs (ks.map D.dat)
  | [], [], _ => .nil
  | [], _ :: _, h => by have := h.1; cases this
  | _ :: _, [], h => by have := h.1; cases this
  | v :: vs, k :: ks, h => .cons (D.dp (h.2 0 v k rfl rfl)) (KdD.dps ⟨by have := h.1; simpa using this, fun i x y e1 e2 => h.2 (i + 1) x y e1 e2⟩)
end
theorem mt_indexDK {X : Cx} {K : PySem.W.Frag} (hK : X.K = K) (hu : X.A.units + 65 < cLine) : MtR X "list.index" (rIndexD K) := by subst hK; exact mt_indexD hu
theorem pe_bmK {X : Cx} {K : PySem.W.Frag} (hK : X.K = K) {T id : String} {name : Str} {r : V → List V → Hp → VK → Prop} {o e : Expr} {es : List Expr} {to : TE} {t : TA} {apos cpos : Pos} (pa : PlainAttrs T) (slot : Slot T name id) (hty : typeOf (.builtin id) = pure (.type "method_descriptor")) (hm : MtR X id r) (ho : PE X o to) (ha : PA X (e :: es) t)
    (hbase : attributeBase o name X.env (eval o X.env) = eval o X.env := by rfl)
    (hfew : ((backTo cpos (starEach (e :: es) X.env)).all (fun x => !x.1) && (backToKw cpos (keywordEach [] X.env)).all (fun x => x.1.isSome)
      && decide ((e :: es).length + ([] : List Keyword).length + (if ([] : List Keyword).isEmpty then 0 else 1) < 30)) = true := by rfl)
    (hline : (apos.endLine == cpos.line) = true := by rfl) (hs : starEach (e :: es) X.env = (false, eval e X.env) :: starEach es X.env := by rfl) (hplain : (backTo cpos (starEach es X.env)).any (·.1) = false := by rfl) :
    PE X (.Call (.Attribute o name apos) (e :: es) [] cpos) (tBM K T r to t) := by
  subst hK; exact pe_bm pa slot hty hm ho ha hbase hfew hline hs hplain
/-- a def that may raise, where it raises nothing -/
theorem FnOk.calm {P : Program} {w : World} {K : PySem.W.Frag} {mg : Str → Option Value} {base : Heap} {k : Nat} {f : Addr} {fd : FuncData} {ps : List Str} {sp : Sp} (F : FnOk P w K mg base (L2.CX P w) k f fd ps sp) : FnOk P w K mg base CX0 k f fd ps (fun vs H Q _ => sp vs H Q E0) :=
  ⟨fun vs H Q E q => F.len _ _ _ _ q, fun A outer s H args us vs Q E hr he hb hv hs => codeAny_mono (F.run A outer s H args us vs Q E0 hr he hb hv hs) fun r s' h => by
    cases r with
    | error e =>
      obtain ⟨_, _, _, _, _, _, _, _, _, _, _, _, z⟩ := h
      exact z.elim
    | ok fl => cases fl <;> exact h⟩
/-! where lambdas stand -/
def stVal : Stmt → Expr
  | .Assign _ v _ => v
  | .Return (some v) _ => v
  | _ => .Constant .none 0 ⟨0, 0, 0, 0⟩
def argN : Expr → Nat → Expr
  | .Call _ as _ _, i => as.getD i (.Constant .none 0 ⟨0, 0, 0, 0⟩)
  | e, _ => e
def lamScope : Expr → Scope
  | .Lambda _ _ s _ => s
  | _ => default
def lamBody : Expr → Expr
  | .Lambda _ b _ _ => b
  | e => e
def lamArgs : Expr → Arguments
  | .Lambda a _ _ _ => a
  | _ => default

open NdefX LamX in
def LF (e : Expr) (qual : Str) (cl : List (Str × Addr)) (c : Addr) : NF := ⟨"<lambda>", qual, lamArgs e, [], lamScope e, cl, c⟩
def forBody : Stmt → Nat → Stmt
  | .For _ _ b _ _, j => b.getD j (.Pass ⟨0, 0, 0, 0⟩)
  | s, _ => s
def ifTest : Stmt → Expr
  | .If t _ _ _ => t
  | _ => .Constant .none 0 ⟨0, 0, 0, 0⟩
def cmpLeft : Expr → Expr
  | .Compare l _ _ _ => l
  | e => e
def boolN : Expr → Nat → Expr
  | .BoolOp _ vs _, j => vs.getD j (.Constant .none 0 ⟨0, 0, 0, 0⟩)
  | e, _ => e
end Vf
set_option Elab.async false
set_option linter.all false
set_option maxRecDepth 100000
set_option maxHeartbeats 4000000
namespace Vf
open PySem L2 PyProof.Rows
def levels (L : List Nat) : Nat → List (List Nat)
  | 0 => [[]]
  | i + 1 => (levels L i).flatMap fun y => L.map fun c => y ++ [c]
def cols (L : List Nat) : Nat → List (List Nat)
  | 0 => [[]]
  | m + 1 => cols L m ++ levels L (m + 1)
theorem levels_len (L : List Nat) : ∀ i, (levels L i).length = L.length ^ i
  | 0 => rfl
  | i + 1 => by
    show ((levels L i).flatMap fun y => L.map fun c => y ++ [c]).length = _
    rw [List.length_flatMap, Nat.pow_succ, ← levels_len L i]
    generalize levels L i = l
    induction l with
    | nil => simp
    | cons x l ih => rw [List.map_cons, List.sum_cons, ih, List.length_map, List.length_cons, Nat.add_mul]; omega
theorem levels_le {L : List Nat} (h : L.length ≤ 3) {i : Nat} (hi : i ≤ 7) : (levels L i).length ≤ 2187 := by
  rw [levels_len]
  exact Nat.le_trans (Nat.pow_le_pow_left h i) (Nat.le_trans (Nat.pow_le_pow_right (by decide) hi) (by decide))
theorem cols_le {L : List Nat} (h : L.length ≤ 3) : ∀ {i : Nat}, i ≤ 7 → (cols L i).length ≤ (i + 1) * 2187
  | 0, _ => by show 1 ≤ _; omega
  | i + 1, hi => by
    have h1 := cols_le h (i := i) (by omega)
    have h2 := levels_le h (i := i + 1) hi
    show (cols L i ++ levels L (i + 1)).length ≤ _
    rw [List.length_append]
    omega
theorem levels_mem {L : List Nat} : ∀ {i : Nat} {y : List Nat}, y ∈ levels L i → y.length = i ∧ ∀ c ∈ y, c ∈ L
  | 0, y, h => by
    rw [List.mem_singleton.mp h]
    exact ⟨rfl, fun c hc => nomatch hc⟩
  | i + 1, y, h => by
    obtain ⟨x, hx, h⟩ := List.mem_flatMap.mp h
    obtain ⟨c, hc, rfl⟩ := List.mem_map.mp h
    obtain ⟨h1, h2⟩ := levels_mem hx
    refine ⟨by simp [h1], fun d hd => ?_⟩
    rcases List.mem_append.mp hd with q | q
    · exact h2 d q
    · rw [List.mem_singleton.mp q]; exact hc
theorem cols_mem {L : List Nat} : ∀ {m : Nat} {y : List Nat}, y ∈ cols L m → y.length ≤ m ∧ ∀ c ∈ y, c ∈ L
  | 0, y, h => by
    rw [List.mem_singleton.mp h]
    exact ⟨Nat.le_refl _, fun c hc => nomatch hc⟩
  | m + 1, y, h => by
    rcases List.mem_append.mp h with q | q
    · obtain ⟨h1, h2⟩ := cols_mem q
      exact ⟨by omega, h2⟩
    · obtain ⟨h1, h2⟩ := levels_mem q
      exact ⟨by omega, h2⟩
theorem big20 {n : Nat} (h : n ≤ 100000) : n ≤ sizeLine := Nat.le_trans h (by decide)
theorem big20' {n : Nat} (h : n ≤ 100000) : n < sizeLine := Nat.lt_of_le_of_lt h (by decide)
section
variable {P : Program} {w : World} {K : PySem.W.Frag} {mg : Str → Option Value} {base : Heap}
def spCols (K : PySem.W.Frag) : Sp := fun vs H Q _ => ∃ (z : Str) (m : Nat), vs = [.str z, .int m] ∧ z.length ≤ 3 ∧ m ≤ 7 ∧ ∀ a H', Same H H' → H' a = some (.lst ((cols (TL.tl z) m).map fun l => V.str (mkS l))) → Q (.ref a) H'
abbrev s__law_columns : Stmt := top 24
abbrev N__law_columns : List Str := ["_law_letters_here", "_law_most", "_law_found", "_law_latest", "_law_turn", "_law_further", "_law_column_here", "_law_letter"]
abbrev P__law_columns : List Str := ["_law_letters_here", "_law_most"]
theorem sc__law_columns : FnScope N__law_columns P__law_columns (defScope s__law_columns) := ⟨rfl, rfl, rfl, by decide +kernel, rfl, by decide +kernel, by decide +kernel⟩

theorem ok_cols {f : Addr} {fd : FuncData} (F : Fun K "_law_columns" "_law_columns" s__law_columns f fd) (T : TxtA K mg) : FnOk P w K mg base CX0 1 f fd P__law_columns (spCols K) := by
  refine F.ok sc__law_columns (fun vs H Q E h => ?_) (fun cdv A outer s H vs Q E hr h => ?_)
  · obtain ⟨z, m, rfl, _⟩ := h
    rfl
  · obtain ⟨z, m, rfl, hz, hm, k⟩ := h
    have hL : (TL.tl z).length ≤ 3 := by rw [← TL.len_tl]; exact hz
    refine ⟨_, (pss_cons (ps_par (i := 2) (j := 3) (by rfl) sc__law_columns.nd rfl rfl (by decide) rfl rfl (pa_cons (pe_lst (pa_cons pe_str pa_nil)) (pa_cons (pe_lst (pa_cons pe_str pa_nil)) pa_nil)) (by rfl))
      (pss_cons (ps_for PassesOwn.never rfl (pi_range1 (by rfl) T.range (pa_cons (pv 1) pa_nil)) (pg_name (i := 4) sc__law_columns.nd rfl (Or.inl rfl)) (pss_cons (ps_set (i := 5) sc__law_columns.nd rfl (Or.inl rfl) (pe_lst pa_nil))
      (pss_cons (ps_for PassesOwn.never rfl (pi_list (pv 3)) (pg_name (i := 6) sc__law_columns.nd rfl (Or.inr rfl)) (pss_one (ps_set (i := 5) sc__law_columns.nd rfl (Or.inl rfl) (pe_op op_cat (pv 5) (pe_lc (own := [("_law_letter", 7)]) (g := gName 7) (by rfl) sc__law_columns.nd (pi_str (pv 0)) (blkOk_by (own := [("_law_letter", 7)]) (N := N__law_columns) (sc := defScope s__law_columns) (by decide +kernel)) (fun _ _ _ _ _ => pg_name (i := 7) sc__law_columns.nd rfl (Or.inl rfl)) (fun _ _ _ _ _ => pts_nil) (fun _ _ _ _ _ => (pe_op op_add_str (pv 6) (pv 7))))))))
      (pss_one (ps_par (i := 2) (j := 3) (by rfl) sc__law_columns.nd rfl rfl (by decide) rfl rfl (pa_cons (pe_op op_cat (pv 2) (pv 5)) (pa_cons (pv 5) pa_nil)) (by rfl))))))
      (pss_one (ps_ret (pv 2))))), ?_⟩
    refine ⟨by show 1 ≤ sizeLine; decide, fun F1 hF1 => ⟨by show 1 ≤ sizeLine; decide, fun G1 hG1 => ⟨_, _, rfl, ?_⟩⟩⟩
    have e0 : ([V.str ""] : List V) = [[]].map fun l => V.str (mkS l) := rfl
    have s0 : Same H (L2.upd (L2.upd H F1 (.lst [V.str ""])) G1 (.lst [V.str ""])) := (same_new hF1).trans (same_new hG1)
    refine ⟨_, rfl, (m : Int), rfl, by omega, by omega, for_range (n := m) (fun i σ H1 => ∃ (F G : Addr) (v4 v5 v6 v7 : Option V), σ = [some (.str z), some (.int m), some (.ref F), some (.ref G), v4, v5, v6, v7] ∧
      H1 F = some (.lst ((cols (TL.tl z) i).map fun l => V.str (mkS l))) ∧ H1 G = some (.lst ((levels (TL.tl z) i).map fun l => V.str (mkS l))) ∧ Same H H1)
      ⟨F1, G1, none, none, none, none, rfl, by rw [upd_ne (ne_of_none upd_same hG1), upd_same]; rfl, by rw [upd_same]; rfl, s0⟩ ?_ ?_⟩
    · rintro i σ H1 hi ⟨F, G, v4, v5, v6, v7, rfl, hF, hG, s1⟩
      have hlv := levels_le hL (i := i) (by omega)
      have hlv1 := levels_le hL (i := i + 1) (by omega)
      have hcl := cols_le hL (i := i) (by omega)
      refine ⟨by show 0 ≤ sizeLine; decide, fun D0 hD0 => ?_⟩
      refine ⟨_, rfl, G, rfl, ⟨_, SqL.of ((same_new hD0) _ _ hG)⟩, for_list (xs := (levels (TL.tl z) i).map fun l => V.str (mkS l)) (fun j σ H2 => ∃ (D : Addr) (v6 v7 : Option V), σ = [some (.str z), some (.int m), some (.ref F), some (.ref G), some (.int (0 + i)), some (.ref D), v6, v7] ∧
        H2 D = some (.lst ((((levels (TL.tl z) i).take j).flatMap fun y => (TL.tl z).map fun c => y ++ [c]).map fun l => V.str (mkS l))) ∧ Same H1 H2)
        ⟨D0, v6, v7, rfl, upd_same, same_new hD0⟩ (fun j σ H2 _ ⟨_, _, _, _, _, s2⟩ => SqL.of (s2 _ _ hG)) ?_ ?_⟩
      · rintro j x σ H2 hx ⟨D, v6, v7, rfl, hD, s2⟩
        rw [List.getElem?_map] at hx
        obtain ⟨y, hy, rfl⟩ := Option.map_eq_some_iff.mp hx
        have hyl := (levels_mem (List.mem_of_getElem? hy)).1
        have hj : j < (levels (TL.tl z) i).length := (List.getElem?_eq_some_iff.mp hy).1
        refine ⟨_, rfl, _, rfl, z, rfl, fun E0 hE0 => lc_it walk_strS (fun j' H3 => H3 E0 = some (.lst ((((TL.tl z).take j').map fun c => y ++ [c]).map fun l => V.str (mkS l))) ∧ Same H2 H3) ⟨upd_same, same_new hE0⟩ (fun _ _ _ _ => trivial) ?_ ?_⟩
        · rintro j' x H3' H3 hj' ⟨hE3, s3⟩ ⟨rfl, c, hc, rfl⟩
          refine ⟨rfl, ?_⟩
          refine lcYes ?_
          refine ⟨_, rfl, _, rfl, mkS y, sg c, rfl, rfl, ?_, _, hE3, ?_, ?_, s3.put hE0⟩
          · rw [mkS_len]; exact big20 (by show y.length + 1 ≤ _; omega)
          · rw [List.length_map, List.length_map, List.length_take]; exact big20' (by omega)
          · rw [upd_same, List.take_add_one, hc, mkS_snoc]
            simp
        · rintro H3 ⟨hE3, s3⟩
          rw [List.take_of_length_le (by rw [← TL.len_tl]; exact Nat.le_refl _)] at hE3
          have hbig : (((levels (TL.tl z) i).take j).flatMap fun y => (TL.tl z).map fun c => y ++ [c]).length ≤ 2187 * 3 := by
            rw [List.length_flatMap]
            have : ∀ l : List (List Nat), (l.map fun y => ((TL.tl z).map fun c => y ++ [c]).length).sum = l.length * (TL.tl z).length := fun l => by
              induction l with
              | nil => simp
              | cons x l ih => rw [List.map_cons, List.sum_cons, ih, List.length_map, List.length_cons, Nat.add_mul]; omega
            rw [this]
            refine Nat.mul_le_mul ?_ hL
            rw [List.length_take]; omega
          refine ⟨D, E0, _, _, rfl, rfl, s3 _ _ hD, hE3, ?_, fun q hq => ?_⟩
          · rw [List.length_map, List.length_map, List.length_map]
            exact big20 (by omega)
          · refine ⟨q, _, _, rfl, ?_, (s2.trans s3).trans (same_new hq)⟩
            rw [upd_same, List.take_add_one, hy]
            simp
      · rintro σ H2 ⟨D, v6, v7, rfl, hD, s2⟩
        rw [List.length_map, List.take_of_length_le (Nat.le_refl _)] at hD
        have hD : H2 D = some (.lst ((levels (TL.tl z) (i + 1)).map fun l => V.str (mkS l))) := hD
        refine ⟨_, rfl, _, rfl, F, D, _, _, rfl, rfl, s2 _ _ hF, hD, ?_, fun q hq => ⟨_, rfl, _, _, rfl, ?_⟩⟩
        · rw [List.length_map, List.length_map]
          have : (i + 1) * 2187 ≤ 7 * 2187 := Nat.mul_le_mul_right _ (by omega)
          exact big20 (by omega)
        · refine ⟨q, D, _, _, _, _, rfl, ?_, (same_new hq) _ _ hD, (s1.trans s2).trans (same_new hq)⟩
          rw [upd_same]
          show _ = some (HO.lst ((cols (TL.tl z) i ++ levels (TL.tl z) (i + 1)).map fun l => V.str (mkS l)))
          rw [List.map_append]
    · rintro σ H1 ⟨F, G, v4, v5, v6, v7, rfl, hF, hG, s1⟩
      exact ⟨_, rfl, k F H1 s1 hF⟩
end
end Vf
set_option Elab.async false
set_option linter.all false
set_option maxRecDepth 100000
set_option maxHeartbeats 4000000
/-! C(..) in a try: what is raised is wished for at the caller's slots -/
namespace L2
open PySem PySem.Spec PyProof.Rows
section
variable {X : Cx} {CX : CXT} {k : Nat} {f C : Addr} {fd : FuncData} {ps : List Str} {sp : Sp} {dvs : List V} {ds : List Value} {E : St → XK} {x : Str} {p pos : Pos} {e : Expr} {es : List Expr} {t : TA}
theorem run_makeV {pins : List (Addr × Obj)} {σ : St} {H : Hp} {s : Shared} {Q : VK} {us : List Value} {vs : List V} (M : Mk X.K C f) (F : FnOk X.prog X.w X.K X.mg X.base CX k f fd ps sp) (hr : Room (k + 1) X.A) (hb : Binds X.K fd ps ds) (hd : Vals dvs ds)
    (hx : PassesAt CX X σ (E σ)) (I : Inv X pins σ H s) (r : Vals vs us)
    (h : ∀ x dx, H x = none → H dx = none → dx ≠ x → sp (.ref x :: (vs ++ dvs)) (upd (upd H dx (.own x)) x (.ins C dx [])) (fun v H2 => v = .non ∧ Q (.ref x) H2) (E σ)) :
    wpAny (model X.prog X.w) X.A (call (.ref C) us) (EP X pins σ Q) X.xe s := by
  have hq := h (s.heap.objs.size + 1) s.heap.objs.size (I.hok.fresh (Nat.le_succ _)) (I.hok.fresh (Nat.le_refl _)) (Nat.ne_of_lt (Nat.lt_succ_self _))
  have I2 := Inv.made (C := C) I
  have r2 : Vals (V.ref (s.heap.objs.size + 1) :: (vs ++ dvs)) (Value.ref (s.heap.objs.size + 1) :: (us ++ ds)) := .cons rfl (r.append hd)
  have hl : (Value.ref (s.heap.objs.size + 1) :: us ++ ds).length = ps.length := by
    have e := r2.length
    rw [F.len _ _ _ _ hq] at e
    exact e.symm
  refine wpAny_call (make_map (f := f) I.kIn M.makes M.init (beq_iff_eq.mp M.fn) (codeAny_mono (F.run _ X.stack _ _ ⟨Value.ref (s.heap.objs.size + 1) :: us, []⟩ (Value.ref (s.heap.objs.size + 1) :: (us ++ ds)) _ _ (E σ) (hr.make C us [])
    (I2.env0.make C us []) (hb _ (Value.ref (s.heap.objs.size + 1) :: us) I2.kIn hl) r2 hq) fun r s' hq' => ?_))
  cases r with
  | error e => exact hx pins _ _ e s' I2 hq'
  | ok fl =>
    cases fl with
    | ret u =>
      obtain ⟨v, H', I3, rv, ev, q3⟩ := I2.after hq'
      subst ev
      exact ⟨rv, ⟨V.ref (s.heap.objs.size + 1), H', I3, rfl, q3⟩⟩
    | next => exact False.elim hq'
    | brk => exact False.elim hq'
    | cont => exact False.elim hq'
def tMakeV (C : Addr) (sp : Sp) (dvs : List V) (E : St → XK) (t : TA) : TE := fun σ H Q => t σ H fun vs H1 => ∀ x dx, H1 x = none → H1 dx = none → dx ≠ x →
  sp (.ref x :: (vs ++ dvs)) (upd (upd H1 dx (.own x)) x (.ins C dx [])) (fun v H2 => v = .non ∧ Q (.ref x) H2) (E σ)
theorem pe_makeV (M : Mk X.K C f) (F : FnOk X.prog X.w X.K X.mg X.base CX k f fd ps sp) (hr : Room (k + 1) X.A) (hg : Gl X x) (hm : X.mg x = some (.ref C)) (hb : Binds X.K fd ps ds) (hd : Vals dvs ds) (hx : ∀ σ, PassesAt CX X σ (E σ))
    (ha : PA X (e :: es) t) (hdb : (x == ("__debug__" : Str)) = false := by decide) (he : starEach (e :: es) X.env = (false, eval e X.env) :: starEach es X.env := by rfl) (hpl : (backTo pos (starEach es X.env)).any (·.1) = false := by rfl) :
    PE X (.Call (.Name x p) (e :: es) [] pos) (tMakeV C sp dvs E t) := by
  refine ⟨fun pins s σ H Q I h => ?_⟩
  refine wpAny_Call_Name_kw (ld_glob I hg hm ?_ hdb)
  refine PySem.W.callWith_K (h₀ := X.base) I.ok.mod.kin M.kp (thn (ha.run pos pins s σ H _ I h) fun us s1 ⟨vs, H1, I1, r, q⟩ => ⟨I1.kIn, ?_⟩) he hpl
  exact run_makeV M F hr hb hd (hx σ) I1 r q
end
end L2
set_option Elab.async false
set_option linter.all false
set_option maxRecDepth 100000
set_option maxHeartbeats 4000000
/-! what a made code pays -/
namespace Vf
open PySem L2 PyProof.Rows
section
variable {κ : Type} [DecidableEq κ]
theorem num_pre {l l' : List κ} {k : κ} (h : k ∈ l) (p : l <+: l') : num l' k = num l k := by
  obtain ⟨t, rfl⟩ := p
  unfold num
  rw [List.idxOf_append, if_pos h]
theorem num_get {l : List κ} {k : κ} (h : k ∈ l) : l[num l k]? = some k := by
  have hl := num_lt h
  rw [List.getElem?_eq_getElem hl]
  congr 1
  exact List.getElem_idxOf hl
theorem num_of {l : List κ} {k : κ} {i : Nat} (hn : l.Nodup) (h : l[i]? = some k) : num l k = i := by
  obtain ⟨hi, e⟩ := List.getElem?_eq_some_iff.mp h
  have hm : k ∈ l := List.mem_of_getElem? h
  have hl := num_lt hm
  have e2 : l[num l k] = k := List.getElem_idxOf hl
  exact (List.getElem_inj hn).mp (e2.trans e.symm)
theorem rowOf_eq (st : κ → Nat → κ) (m : κ) : ∀ (L : List Nat) (p : List κ × List Nat), (rowOf st m L p).2 = p.2 ++ L.map (fun c => num (rowOf st m L p).1 (st m c)) ∧ ∀ c ∈ L, st m c ∈ (rowOf st m L p).1
  | [], p => ⟨by simp [rowOf], fun c h => nomatch h⟩
  | c :: cs, (ks, row) => by
    obtain ⟨h1, h2⟩ := rowOf_eq st m cs (add1 ks (st m c), row ++ [num (add1 ks (st m c)) (st m c)])
    have hp := rowOf_pre st m cs (add1 ks (st m c), row ++ [num (add1 ks (st m c)) (st m c)])
    have hm : st m c ∈ add1 ks (st m c) := add1_mem
    refine ⟨?_, fun d hd => ?_⟩
    · show (rowOf st m cs (add1 ks (st m c), row ++ [num (add1 ks (st m c)) (st m c)])).2 = row ++ (c :: cs).map (fun c' => num (rowOf st m cs (add1 ks (st m c), row ++ [num (add1 ks (st m c)) (st m c)])).1 (st m c'))
      rw [h1, List.map_cons, num_pre hm hp]
      simp
    · rcases List.mem_cons.mp hd with e | e
      · rw [e]; exact hp.subset hm
      · exact h2 d e
theorem turns_eq (st : κ → Nat → κ) (L : List Nat) (s0 : κ) : ∀ (n i : Nat) (row : List Nat), (turns st L s0 n).2[i]? = some row → ∃ m, (turns st L s0 n).1[i]? = some m ∧ row = L.map (fun c => num (turns st L s0 n).1 (st m c)) ∧ ∀ c ∈ L, st m c ∈ (turns st L s0 n).1
  | 0, i, row, h => by simp [turns] at h
  | n + 1, i, row, h => by
    have ih := turns_eq st L s0 n
    have hrl := turns_rows_le st L s0 n
    revert h
    show (turn st L (turns st L s0 n)).2[i]? = some row → ∃ m, (turn st L (turns st L s0 n)).1[i]? = some m ∧ row = L.map (fun c => num (turn st L (turns st L s0 n)).1 (st m c)) ∧ ∀ c ∈ L, st m c ∈ (turn st L (turns st L s0 n)).1
    have hp := turn_pre st L (turns st L s0 n)
    revert hp
    unfold turn
    split
    · intro _ h
      exact ih i row h
    · rename_i mm hm
      dsimp only
      intro hp h
      by_cases hi : i < (turns st L s0 n).2.length
      · rw [List.getElem?_append_left hi] at h
        obtain ⟨m, h1, h2, h3⟩ := ih i row h
        have h4 : i < (turns st L s0 n).1.length := (List.getElem?_eq_some_iff.mp h1).1
        refine ⟨m, ?_, ?_, fun c hc => hp.subset (h3 c hc)⟩
        · obtain ⟨t, ht⟩ := hp
          rw [← ht, List.getElem?_append_left h4]
          exact h1
        · rw [h2]
          refine List.map_congr_left fun c hc => (num_pre (h3 c hc) hp).symm
      · have hl := (List.getElem?_eq_some_iff.mp h).1
        rw [List.length_append, List.length_singleton] at hl
        have ei : i = (turns st L s0 n).2.length := by omega
        subst ei
        rw [List.getElem?_append_right (Nat.le_refl _), Nat.sub_self] at h
        have h : (rowOf st mm L ((turns st L s0 n).1, [])).2 = row := Option.some.inj h
        obtain ⟨h1, h2⟩ := rowOf_eq st mm L ((turns st L s0 n).1, [])
        refine ⟨mm, ?_, by rw [← h, h1]; rfl, h2⟩
        have h4 := (List.getElem?_eq_some_iff.mp hm).1
        obtain ⟨t, ht⟩ := hp
        rw [← ht, List.getElem?_append_left h4]
        exact hm
/-- the bits along a column -/
def pay (st : κ → Nat → κ) (bt : κ → Nat → Int) : κ → List Nat → Int
  | _, [] => 0
  | k, c :: y => bt k c + pay st bt (st k c) y
/-- all keys have rows that tell where the letters lead -/
structure Full (st : κ → Nat → κ) (L : List Nat) (s0 : κ) (ks : List κ) (rows : List (List Nat)) : Prop where
  nd : ks.Nodup
  len : rows.length = ks.length
  s0_ : ks[0]? = some s0
  row : ∀ (i : Nat) (row : List Nat), rows[i]? = some row → ∃ m, ks[i]? = some m ∧ row = L.map (fun c => num ks (st m c)) ∧ ∀ c ∈ L, st m c ∈ ks
theorem full_of {st : κ → Nat → κ} {L : List Nat} {s0 : κ} {n : Nat} (h : (turns st L s0 n).1.length ≤ n) : Full st L s0 (turns st L s0 n).1 (turns st L s0 n).2 := by
  refine ⟨turns_nodup st L s0 n, turns_done st L s0 h, ?_, turns_eq st L s0 n⟩
  obtain ⟨t, ht⟩ := turns_pre st L s0 (Nat.zero_le n)
  rw [← ht]
  rfl
theorem Full.goal {st : κ → Nat → κ} {L : List Nat} {s0 : κ} {ks : List κ} {rows : List (List Nat)} (F : Full st L s0 ks rows) {k : κ} (hk : k ∈ ks) {c : Nat} (hc : c ∈ L) : st k c ∈ ks := by
  have h1 := num_get hk
  have h2 := num_lt hk
  obtain ⟨m, h3, _, h5⟩ := F.row (num ks k) _ (List.getElem?_eq_getElem (by rw [F.len]; exact h2))
  rw [h1] at h3
  rw [Option.some.inj h3]
  exact h5 c hc
theorem made_step {st : κ → Nat → κ} {bt : κ → Nat → Int} {L : List Nat} {s0 : κ} {ks : List κ} {rows : List (List Nat)} (F : Full st L s0 ks rows) {k : κ} (hk : k ∈ ks) {c : Nat} (hc : c ∈ L) (t : Int) :
    stepR (List.zipWith (fun k row => List.zipWith (fun c (n : Nat) => ((n : Int), bt k c)) L row) ks rows) L ((num ks k : Int), t) c = ((num ks (st k c) : Int), t + bt k c) := by
  have h1 := num_get hk
  have h2 := num_lt hk
  have hr : rows[num ks k]? = some (rows[num ks k]'(by rw [F.len]; exact h2)) := List.getElem?_eq_getElem _
  obtain ⟨m, h3, h4, _⟩ := F.row (num ks k) _ hr
  rw [h1] at h3
  obtain rfl : k = m := Option.some.inj h3
  have hci : L[L.idxOf c]? = some c := by
    have hl := List.idxOf_lt_length_iff.mpr hc
    rw [List.getElem?_eq_getElem hl, List.getElem_idxOf hl]
  unfold stepR
  have e1 : (((num ks k : Nat) : Int)).toNat = num ks k := Int.toNat_natCast _
  have e2 : (List.zipWith (fun k row => List.zipWith (fun c (n : Nat) => ((n : Int), bt k c)) L row) ks rows)[num ks k]? = some (List.zipWith (fun c (n : Nat) => ((n : Int), bt k c)) L (rows[num ks k]'(by rw [F.len]; exact h2))) := by
    rw [List.getElem?_zipWith, h1, hr]
  have e3 : (List.zipWith (fun c (n : Nat) => ((n : Int), bt k c)) L (rows[num ks k]'(by rw [F.len]; exact h2)))[L.idxOf c]? = some ((num ks (st k c) : Int), bt k c) := by
    rw [List.getElem?_zipWith, hci, h4, List.getElem?_map, hci]
    rfl
  simp only [e1, List.getD_eq_getElem?_getD, e2, Option.getD_some, e3]
theorem made_walk {st : κ → Nat → κ} {bt : κ → Nat → Int} {L : List Nat} {s0 : κ} {ks : List κ} {rows : List (List Nat)} (F : Full st L s0 ks rows) : ∀ (y : List Nat) (k : κ) (t : Int), k ∈ ks → (∀ c ∈ y, c ∈ L) →
    y.foldl (stepR (List.zipWith (fun k row => List.zipWith (fun c (n : Nat) => ((n : Int), bt k c)) L row) ks rows) L) ((num ks k : Int), t) = ((num ks (y.foldl st k) : Int), t + pay st bt k y) ∧ y.foldl st k ∈ ks
  | [], k, t, hk, _ => ⟨by simp [pay], hk⟩
  | c :: y, k, t, hk, hy => by
    have hc := hy c List.mem_cons_self
    obtain ⟨h1, h2⟩ := made_walk F y (st k c) (t + bt k c) (F.goal hk hc) fun d hd => hy d (List.mem_cons_of_mem _ hd)
    refine ⟨?_, h2⟩
    rw [List.foldl_cons, made_step F hk hc, h1, List.foldl_cons]
    show _ = (_, t + (bt k c + pay st bt (st k c) y))
    rw [Int.add_assoc]
theorem made_len {st : κ → Nat → κ} {bt : κ → Nat → Int} {en : κ → Int} {L : List Nat} {s0 : κ} {ks : List κ} {rows : List (List Nat)} (F : Full st L s0 ks rows) {y : List Nat} (hy : ∀ c ∈ y, c ∈ L) :
    lenR (List.zipWith (fun k row => List.zipWith (fun c (n : Nat) => ((n : Int), bt k c)) L row) ks rows) (ks.map en) L y = pay st bt s0 y + en (y.foldl st s0) := by
  have hs : s0 ∈ ks := List.mem_of_getElem? F.s0_
  have e0 : num ks s0 = 0 := num_of F.nd F.s0_
  obtain ⟨h1, h2⟩ := made_walk (bt := bt) F y s0 0 hs hy
  rw [e0] at h1
  unfold lenR walkR
  have h1' : y.foldl (stepR (List.zipWith (fun k row => List.zipWith (fun c (n : Nat) => ((n : Int), bt k c)) L row) ks rows) L) (0, 0) = _ := h1
  rw [h1']
  have e1 : (((num ks (y.foldl st s0) : Nat) : Int)).toNat = num ks (y.foldl st s0) := Int.toNat_natCast _
  have e2 : (ks.map en)[num ks (y.foldl st s0)]? = some (en (y.foldl st s0)) := by rw [List.getElem?_map, num_get h2]; rfl
  dsimp only
  rw [e1, List.getD_eq_getElem?_getD, e2, Option.getD_some, Int.zero_add]
theorem made_goodS {st : κ → Nat → κ} {bt : κ → Nat → Int} {L : List Nat} {s0 : κ} {ks : List κ} {rows : List (List Nat)} (F : Full st L s0 ks rows) : GoodS L.length (List.zipWith (fun k row => List.zipWith (fun c (n : Nat) => ((n : Int), bt k c)) L row) ks rows) := by
  refine ⟨fun r hr => ?_⟩
  obtain ⟨i, hi, e⟩ := List.getElem_of_mem hr
  rw [List.length_zipWith] at hi
  have hi1 : i < ks.length := by omega
  have hi2 : i < rows.length := by omega
  rw [List.getElem_zipWith] at e
  obtain ⟨m, h3, h4, h5⟩ := F.row i _ (List.getElem?_eq_getElem hi2)
  have hl : rows[i].length = L.length := by rw [h4, List.length_map]
  subst e
  refine ⟨by rw [List.length_zipWith]; omega, fun gb hg => ?_⟩
  obtain ⟨j, hj, q⟩ := List.getElem_of_mem hg
  rw [List.getElem_zipWith] at q
  rw [List.length_zipWith] at hj
  have hx : rows[i][j]'(by omega) ∈ rows[i] := List.getElem_mem _
  have gen : ∀ row : List Nat, row = L.map (fun c => num ks (st m c)) → ∀ x ∈ row, x < ks.length := fun row e x hx => by
    subst e
    obtain ⟨c, hc, ec⟩ := List.mem_map.mp hx
    rw [← ec]
    exact num_lt (h5 c hc)
  have hx2 := gen _ h4 _ hx
  have := F.len
  rw [← q, List.length_zipWith]
  dsimp only
  omega
end
end Vf
set_option Elab.async false
set_option linter.all false
set_option maxRecDepth 100000
set_option maxHeartbeats 4000000
/-! a word many times -/
namespace Vf
open PySem L2 PyProof.Rows
def rMulS : R2 := fun x y H Q => ∃ z n, x = .str z ∧ y = .int n ∧ 0 ≤ n ∧ n ≤ 1000 ∧ z.length ≤ 1000 ∧ ∀ r : Str, TL.tl r = (List.replicate n.toNat (TL.tl z)).flatten → Q (.str r) H
theorem foldl_cps (l : List (Array Nat)) (a : Array Nat) : (l.foldl (· ++ ·) a).toList = a.toList ++ (l.map Array.toList).flatten := by
  induction l generalizing a with
  | nil => simp
  | cons b r ih => rw [List.foldl_cons, ih]; simp
theorem op_mul_str {X : Cx} : OpR X (binaryOp .Mult) rMulS := by
  intro pins s σ H x y v u Q I rx ry h
  obtain ⟨z, n, rfl, rfl, h0, h1, hz, q⟩ := h
  obtain ⟨t, rfl⟩ := rx
  obtain ⟨t', rfl⟩ := ry
  have hp : z.length * n.toNat ≤ 1000 * 1000 := Nat.mul_le_mul hz (by omega)
  refine PySem.P.mul_str ?_ (fun hn _ => ?_) (fun hn _ => ?_) ?_
  · rw [decide_eq_false (by omega), decide_eq_false (by omega)]; rfl
  · have : (1000 : Int) ≤ (2 ^ 63 - 1) / n := by
      rw [Int.le_ediv_iff_mul_le (by omega)]
      omega
    omega
  · exact decide_eq_false (Nat.not_lt.mpr (Nat.le_trans hp (by rw [sizeLine_eq]; decide)))
  · by_cases c : n < 1
    · rw [if_pos c]
      have e : n = 0 := by omega
      subst e
      exact ⟨by decide, .str Str.empty, H, I.tok _, ⟨_, rfl⟩, q _ rfl⟩
    · rw [if_neg c]
      by_cases c2 : (n == 1 || z.length == 0) = true
      · rw [if_pos c2]
        refine ⟨.str z, H, I, ⟨_, rfl⟩, q z ?_⟩
        rcases Bool.or_eq_true_iff.mp c2 with e | e
        · have e := eq_of_beq e
          subst e
          simp
        · have e := eq_of_beq e
          rw [TL.len_tl] at e
          have e2 : TL.tl z = [] := List.length_eq_zero_iff.mp e
          rw [e2]
          simp
      · rw [if_neg c2]
        have et : TL.tl (⟨(List.replicate n.toNat z.cps).foldl (· ++ ·) #[]⟩ : Str) = (List.replicate n.toNat (TL.tl z)).flatten := by
          show ((List.replicate n.toNat z.cps).foldl (· ++ ·) #[]).toList = _
          rw [foldl_cps, List.map_replicate]
          rfl
        refine ⟨?_, .str _, H, I.tok _, ⟨_, rfl⟩, q _ et⟩
        rw [TL.len_tl, et, List.length_flatten, List.map_replicate, List.sum_replicate_nat]
        refine Nat.le_trans ?_ (by rw [sizeLine_eq]; decide : 1000 * 1000 ≤ sizeLine)
        rw [← TL.len_tl, Nat.mul_comm]
        exact hp
/-! a word n times from a state -/
def wn (rs : List Row) (z y : List Nat) : Nat → Int → Int × Int
  | 0, s => (s, 0)
  | n + 1, s => ((walkR rs z (wn rs z y n s).1 y).1, (wn rs z y n s).2 + (walkR rs z (wn rs z y n s).1 y).2)
section
variable {rs : List Row} {z : List Nat}
theorem wn_add (y : List Nat) (a : Nat) (s : Int) : ∀ b, wn rs z y (a + b) s = ((wn rs z y b (wn rs z y a s).1).1, (wn rs z y a s).2 + (wn rs z y b (wn rs z y a s).1).2)
  | 0 => by simp [wn]
  | b + 1 => by
    have ih := wn_add y a s b
    show ((walkR rs z (wn rs z y (a + b) s).1 y).1, (wn rs z y (a + b) s).2 + (walkR rs z (wn rs z y (a + b) s).1 y).2) = _
    rw [ih]
    simp only [wn, Int.add_assoc]
theorem fold_walk (y : List Nat) : ∀ (s b : Int), y.foldl (stepR rs z) (s, b) = ((walkR rs z s y).1, b + (walkR rs z s y).2) := by
  induction y with
  | nil => intro s b; simp [walkR]
  | cons c r ih =>
    intro s b
    have e1 : stepR rs z (s, b) c = ((stepR rs z (s, 0) c).1, b + (stepR rs z (s, 0) c).2) := by simp [stepR]
    have e2 : walkR rs z s (c :: r) = ((walkR rs z (stepR rs z (s, 0) c).1 r).1, (stepR rs z (s, 0) c).2 + (walkR rs z (stepR rs z (s, 0) c).1 r).2) := by
      show r.foldl (stepR rs z) (stepR rs z (s, 0) c) = _
      have := ih (stepR rs z (s, 0) c).1 (stepR rs z (s, 0) c).2
      exact this
    rw [List.foldl_cons, e1, ih, e2]
    simp [Int.add_assoc]
theorem walk_append (x y : List Nat) (s : Int) : walkR rs z s (x ++ y) = ((walkR rs z (walkR rs z s x).1 y).1, (walkR rs z s x).2 + (walkR rs z (walkR rs z s x).1 y).2) := by
  show (x ++ y).foldl (stepR rs z) (s, 0) = _
  rw [List.foldl_append]
  exact fold_walk y (walkR rs z s x).1 (walkR rs z s x).2
theorem wn_one (y : List Nat) (s : Int) : wn rs z y 1 s = walkR rs z s y := by simp [wn]
theorem wn_flat (y : List Nat) (s : Int) : ∀ n, walkR rs z s (List.replicate n y).flatten = wn rs z y n s
  | 0 => rfl
  | n + 1 => by
    rw [List.replicate_succ', List.flatten_append, List.flatten_singleton, walk_append, wn_flat y s n]
    rfl
theorem wn_twice (y : List Nat) (s : Int) : ∀ n, wn rs z (y ++ y) n s = wn rs z y (n + n) s
  | 0 => rfl
  | n + 1 => by
    have e : n + 1 + (n + 1) = (n + n) + 1 + 1 := by omega
    rw [e]
    simp only [wn, wn_twice y s n, walk_append, Int.add_assoc]
theorem wn_rot (a b : List Nat) (s : Int) : ∀ n, wn rs z (a ++ b) (n + 1) s = ((walkR rs z (wn rs z (b ++ a) n (walkR rs z s a).1).1 b).1, (walkR rs z s a).2 + ((wn rs z (b ++ a) n (walkR rs z s a).1).2 + (walkR rs z (wn rs z (b ++ a) n (walkR rs z s a).1).1 b).2))
  | 0 => by simp [wn, walk_append]
  | n + 1 => by
    have ih := wn_rot a b s n
    show ((walkR rs z (wn rs z (a ++ b) (n + 1) s).1 (a ++ b)).1, (wn rs z (a ++ b) (n + 1) s).2 + (walkR rs z (wn rs z (a ++ b) (n + 1) s).1 (a ++ b)).2) = _
    rw [ih]
    simp only [wn, walk_append, Int.add_assoc]
theorem wn_ok {m : Nat} {y : List Nat} {s : Int} (g : GoodS m rs) (hz : z.length = m) (h0 : 0 ≤ s) (h1 : s < rs.length) (hy : ∀ c ∈ y, c ∈ z) : ∀ n, 0 ≤ (wn rs z y n s).1 ∧ (wn rs z y n s).1 < rs.length
  | 0 => ⟨h0, h1⟩
  | n + 1 => by
    have ih := wn_ok (y := y) g hz h0 h1 hy n
    have := walkR_ok (y := y) g hz ih.1 ih.2 hy y.length (Nat.le_refl _)
    rw [List.take_length] at this
    exact this
theorem cyc_mul {y : List Nat} {T c : Int} {p : Nat} (h : wn rs z y p T = (T, c)) : ∀ q : Nat, wn rs z y (q * p) T = (T, q * c)
  | 0 => by simp [wn]
  | q + 1 => by
    rw [Nat.succ_mul, wn_add, cyc_mul h q]
    simp only [h]
    congr 1
    rw [Int.natCast_add, Int.add_mul, Int.natCast_one, Int.one_mul]
theorem cyc_any {y : List Nat} {T c : Int} {p : Nat} (h : wn rs z y p T = (T, c)) (r : Nat) : wn rs z y p (wn rs z y r T).1 = ((wn rs z y r T).1, c) := by
  have h1 := wn_add (rs := rs) (z := z) y r T p
  have h2 := wn_add (rs := rs) (z := z) y p T r
  rw [Nat.add_comm p r, h1] at h2
  simp only [h] at h2
  have e1 := congrArg Prod.fst h2
  have e2 := congrArg Prod.snd h2
  simp only at e1 e2
  refine Prod.ext e1 ?_
  show (wn rs z y p (wn rs z y r T).1).2 = c
  omega
/-- what the last lines of a walk in rounds tell -/
theorem loop_end {y : List Nat} {s : Int} {f k q r : Nat} (hf : f < k) (h : (wn rs z y f s).1 = (wn rs z y k s).1) :
    wn rs z y (k + q * (k - f) + r) s = ((wn rs z y (f + r) s).1, (wn rs z y k s).2 + q * ((wn rs z y k s).2 - (wn rs z y f s).2) + (wn rs z y (f + r) s).2 - (wn rs z y f s).2) := by
  have hk : f + (k - f) = k := by omega
  have h1 := wn_add (rs := rs) (z := z) y f s (k - f)
  rw [hk] at h1
  have hc : wn rs z y (k - f) (wn rs z y f s).1 = ((wn rs z y f s).1, (wn rs z y k s).2 - (wn rs z y f s).2) := by
    have e1 := congrArg Prod.fst h1
    have e2 := congrArg Prod.snd h1
    simp only at e1 e2
    refine Prod.ext (by rw [← e1, h]) ?_
    show (wn rs z y (k - f) (wn rs z y f s).1).2 = _
    omega
  have h2 := cyc_mul hc q
  have h3 := wn_add (rs := rs) (z := z) y f s r
  rw [Nat.add_assoc, wn_add, ← h, wn_add, h2, h3]
  refine Prod.ext rfl ?_
  show (wn rs z y k s).2 + (q * ((wn rs z y k s).2 - (wn rs z y f s).2) + (wn rs z y r (wn rs z y f s).1).2) = _
  simp only
  omega
/-- blocks, one behind the other -/
def eff (rs : List Row) (z : List Nat) (bs : List (List Nat × Nat)) (s : Int) : Int × Int := bs.foldl (fun a b => ((wn rs z b.1 b.2 a.1).1, a.2 + (wn rs z b.1 b.2 a.1).2)) (s, 0)
theorem eff_fold (bs : List (List Nat × Nat)) : ∀ (s b : Int), bs.foldl (fun a b => ((wn rs z b.1 b.2 a.1).1, a.2 + (wn rs z b.1 b.2 a.1).2)) (s, b) = ((eff rs z bs s).1, b + (eff rs z bs s).2) := by
  induction bs with
  | nil => intro s b; simp [eff]
  | cons x r ih =>
    intro s b
    have e2 : eff rs z (x :: r) s = ((eff rs z r (wn rs z x.1 x.2 s).1).1, (wn rs z x.1 x.2 s).2 + (eff rs z r (wn rs z x.1 x.2 s).1).2) := by
      show r.foldl _ ((wn rs z x.1 x.2 s).1, 0 + (wn rs z x.1 x.2 s).2) = _
      rw [Int.zero_add]
      exact ih _ _
    rw [List.foldl_cons, e2]
    have := ih (wn rs z x.1 x.2 s).1 (b + (wn rs z x.1 x.2 s).2)
    rw [this]
    simp [Int.add_assoc]
theorem eff_cons (x : List Nat × Nat) (r : List (List Nat × Nat)) (s : Int) : eff rs z (x :: r) s = ((eff rs z r (wn rs z x.1 x.2 s).1).1, (wn rs z x.1 x.2 s).2 + (eff rs z r (wn rs z x.1 x.2 s).1).2) := by
  show r.foldl _ ((wn rs z x.1 x.2 s).1, 0 + (wn rs z x.1 x.2 s).2) = _
  rw [Int.zero_add]
  exact eff_fold r _ _
theorem eff_append (x y : List (List Nat × Nat)) (s : Int) : eff rs z (x ++ y) s = ((eff rs z y (eff rs z x s).1).1, (eff rs z x s).2 + (eff rs z y (eff rs z x s).1).2) := by
  show (x ++ y).foldl _ (s, 0) = _
  rw [List.foldl_append]
  exact eff_fold y (eff rs z x s).1 (eff rs z x s).2
theorem eff_one (y : List Nat) (n : Nat) (s : Int) : eff rs z [(y, n)] s = wn rs z y n s := by
  rw [eff_cons]
  simp [eff]
end
end Vf
set_option Elab.async false
set_option linter.all false
set_option maxRecDepth 100000
set_option maxHeartbeats 4000000
namespace Vf
open PySem L2 PyProof.Rows
open NdefX LamX
/-- a shape as data -/
def ShD (H : Hp) (t : Addr) (z : Str) (gs : List (List Int)) (es : List Int) : Prop := ∃ (R G : Addr) (rs : List Addr), H t = some (.tup [.str z, .ref R, .ref G]) ∧ H R = some (.lst (rs.map V.ref)) ∧ Forall2 (fun (r : Addr) (row : List Int) => H r = some (.lst (row.map V.int))) rs gs ∧ H G = some (.lst (es.map V.int))
theorem ShD.same {H H' : Hp} {t : Addr} {z : Str} {gs : List (List Int)} {es : List Int} (c : ShD H t z gs es) (s : Same H H') : ShD H' t z gs es := by
  obtain ⟨R, G, rs, h1, h2, h3, h4⟩ := c
  exact ⟨R, G, rs, s _ _ h1, s _ _ h2, h3.imp fun x y _ h => s _ _ h, s _ _ h4⟩
theorem ShD.kp {H H' : Hp} {t p : Addr} {z : Str} {gs : List (List Int)} {es : List Int} {kvs : List (Key × V)} (c : ShD H t z gs es) (k : Kp p H H') (hp : H p = some (.dK kvs)) : ShD H' t z gs es := by
  obtain ⟨R, G, rs, h1, h2, h3, h4⟩ := c
  exact ⟨R, G, rs, k _ _ h1 (L2.ne_of h1 hp (by intro z; cases z)), k _ _ h2 (L2.ne_of h2 hp (by intro z; cases z)), h3.imp fun x y _ h => k _ _ h (L2.ne_of h hp (by intro z; cases z)), k _ _ h4 (L2.ne_of h4 hp (by intro z; cases z))⟩
theorem ShD.sameT {NT : List NTab} {H H' : Hp} {t : Addr} {z : Str} {gs : List (List Int)} {es : List Int} (c : ShD H t z gs es) (k : SameT NT H H') : ShD H' t z gs es := by
  obtain ⟨R, G, rs, h1, h2, h3, h4⟩ := c
  exact ⟨R, G, rs, k.ext _ _ h1 (fun _ z => nomatch z), k.ext _ _ h2 (fun _ z => nomatch z), h3.imp fun x y _ h => k.ext _ _ h (fun _ z => nomatch z), k.ext _ _ h4 (fun _ z => nomatch z)⟩
theorem dpAll_gs {K : PySem.W.Frag} {H : Hp} : ∀ {rs : List Addr} {gs : List (List Int)}, rs.length = gs.length → (∀ (i : Nat) (r : Addr) (row : List Int), rs[i]? = some r → gs[i]? = some row → H r = some (.lst (row.map V.int))) → DpAll K H (rs.map V.ref) (gs.map intsD)
  | [], [], _, _ => .nil
  | r :: rs, row :: gs, hl, h => by
    have h0 := h 0 r row rfl rfl
    have ih := dpAll_gs (K := K) (H := H) (rs := rs) (gs := gs) (by simpa using hl) fun i r' row' h1 h2 => h (i + 1) r' row' h1 h2
    exact DpAll.cons (Dp.lst (SqL.of h0) (dpAll_ints K H _)) ih
section
variable {P : Program} {w : World} {K : PySem.W.Frag} {mg : Str → Option Value} {base : Heap}
def spHasD : Sp := fun vs H Q _ => ∃ (t : Addr) (z y : Str) (gs : List (List Int)) (es : List Int), vs = [.ref t, .str y] ∧ ShD H t z gs es ∧ GoodRows z.length gs ∧ z.length ≤ 26 ∧ (∀ c ∈ TL.tl y, c ∈ TL.tl z) ∧ ∀ H', Same H H' → Q (.bl (decide (walkG gs (TL.tl z) 0 (TL.tl y) ∈ es))) H'
abbrev s__law_has : Stmt := top 22
abbrev N__law_has : List Str := ["_law_shape_here", "_law_column_here", "_law_state", "_law_letter"]
abbrev P__law_has : List Str := ["_law_shape_here", "_law_column_here"]
theorem sc__law_has : FnScope N__law_has P__law_has (defScope s__law_has) := ⟨rfl, rfl, rfl, by decide +kernel, rfl, by decide +kernel, by decide +kernel⟩

theorem ok_hasD {f : Addr} {fd : FuncData} (F : Fun K "_law_has" "_law_has" s__law_has f fd) : FnOk P w K mg base CX0 1 f fd P__law_has spHasD := by
  refine F.ok sc__law_has (fun vs H Q E h => ?_) (fun cdv A outer s H vs Q E hr h => ?_)
  · obtain ⟨t, z, y, gs, es, rfl, _⟩ := h
    rfl
  · obtain ⟨t, z, y, gs, es, rfl, hS, hg, hz, hy, k⟩ := h
    refine ⟨_, (pss_cons (ps_set (i := 2) sc__law_has.nd rfl (Or.inl rfl) pe_int)
      (pss_cons (ps_for PassesOwn.never rfl (pi_str (pv 1)) (pg_name (i := 3) sc__law_has.nd rfl (Or.inl rfl)) (pss_one (ps_set (i := 2) sc__law_has.nd rfl (Or.inl rfl) (pe_ix ix_list (pe_ix ix_list (pe_ix ix_tup (pv 0) pe_int (fun _ _ => rfl)) (pv 2) (fun _ _ => rfl)) (pe_m1 PySem.F.slot_str_index PySem.F.type_str_index mt_sindex (pe_ix ix_tup (pv 0) pe_int (fun _ _ => rfl)) (pv 3)) (fun _ _ => rfl)))))
      (pss_one (ps_ret (pe_cmpR op_in_seq (pv 2) (pe_ix ix_tup (pv 0) pe_int (fun _ _ => rfl)) (by rfl)))))), ?_⟩
    obtain ⟨R, G, rs, ht, hR, hrs, hG⟩ := id hS
    refine ⟨_, rfl, y, rfl, for_it walk_strS (fun i σ H2 => ∃ v3 : Option V, σ = [some (.ref t), some (.str y), some (.int (walkG gs (TL.tl z) 0 ((TL.tl y).take i))), v3] ∧ H2 = H)
        ⟨none, rfl, rfl⟩ (fun _ _ _ _ _ => trivial) ?_ ?_⟩
    · rintro i x σ H3 H2 hi ⟨v3, rfl, rfl⟩ ⟨rfl, c, hc, rfl⟩
      obtain ⟨hlt, hce⟩ := List.getElem?_eq_some_iff.mp hc
      have hcz : c ∈ TL.tl z := hy c (by rw [← hce]; exact List.getElem_mem hlt)
      have hg' : GoodRows (TL.tl z).length gs := by rw [← TL.len_tl]; exact hg
      obtain ⟨a0, a1⟩ := walkG_ok (s := 0) (y := (TL.tl y).take i) hg' (Int.le_refl 0) (by have := hg.2; omega) fun d hd => hy d (List.mem_of_mem_take hd)
      have hw := walkG_more (gs := gs) (L := TL.tl z) (s := 0) hlt
      rw [hce] at hw
      generalize walkG gs (TL.tl z) 0 ((TL.tl y).take i) = s0 at a0 a1 hw ⊢
      obtain ⟨g1, g2, g3, g4⟩ := atG (k := (TL.tl z).idxOf c) hg a0 a1 (by rw [TL.len_tl]; exact idx_lt hcz)
      obtain ⟨rj, hrj⟩ : ∃ rj, rs[s0.toNat]? = some rj := ⟨_, List.getElem?_eq_getElem (by have := hrs.1; omega)⟩
      have hrow := hrs.2 s0.toNat rj _ hrj (List.getElem?_eq_getElem g1)
      obtain ⟨rest, hocc⟩ := occ_sg hcz
      refine ⟨_, rfl, t, _, 1, .ref R, rfl, rfl, SqT.of ht, rfl, _, rfl, R, _, s0, .ref rj, rfl, rfl, SqL.of hR, at_of' (show s0 = ((s0.toNat : Nat) : Int) by omega) (by rw [List.getElem?_map, hrj]; rfl), _, rfl, t, _, 0, .str z, rfl, rfl, SqT.of ht, rfl, ⟨_, rfl⟩, _, rfl, z, sg c, _, rest, rfl, rfl, hocc, rj, _, _, .int (gs[s0.toNat][(TL.tl z).idxOf c]), rfl, rfl, SqL.of hrow, atI_nat (by rw [List.getElem?_map, List.getElem?_eq_getElem g2]; rfl), ?_⟩
      refine ⟨some (.str (sg c)), ?_, rfl⟩
      rw [hw, stepG_eq g1 g2]
      rfl
    · rintro σ H2 ⟨v3, rfl, rfl⟩
      refine ⟨_, rfl, _, rfl, t, _, 2, .ref G, rfl, rfl, SqT.of ht, rfl, G, _, rfl, Or.inl (SqL.of hG), rfl, flat_ints es, ?_⟩
      have := k H2 (Same.refl _)
      rw [TL.len_tl, List.take_length]
      show Q (.bl (inV _ _)) H2
      rw [inV_int]
      exact this
def spShape : Sp := fun vs H Q _ => ∃ (p c : Addr) (z : Str) (most n : Nat), vs = [.ref p, .str z, .int most] ∧ Pen H p c n ∧ n ≤ 2 ^ 29 ∧ 1 ≤ most ∧ most ≤ 8 ∧ z.length ≤ 3 ∧
  ∀ (t : Addr) (H' : Hp) (gs : List (List Int)) (es : List Int), ShD H' t z gs es → GoodRows z.length gs → gs.length ≤ most → (∀ e ∈ es, 0 ≤ e ∧ e < (gs.length : Nat)) → es.length ≤ 8 → 0 < es.length → Pen H' p c (n + 100) → Kp p H H' → Q (.ref t) H'
abbrev s__law_shape : Stmt := top 21
abbrev N__law_shape : List Str := ["_law_pen_here", "_law_letters_here", "_law_most", "_law_count", "_law_rows", "_law_state", "_law_good", "_law_letter"]
abbrev P__law_shape : List Str := ["_law_pen_here", "_law_letters_here", "_law_most"]
theorem sc__law_shape : FnScope N__law_shape P__law_shape (defScope s__law_shape) := ⟨rfl, rfl, rfl, by decide +kernel, rfl, by decide +kernel, by decide +kernel⟩

theorem ok_shape {f fD : Addr} {fd fdD : FuncData} (F : Fun K "_law_shape" "_law_shape" s__law_shape f fd) (T : TxtD K mg fD) (FD : Fun K "_law_draw" "_law_draw" s__law_draw fD fdD) (b_law_draw : Binds K fdD P__law_draw []) : FnOk P w K mg base CX0 2 f fd P__law_shape spShape := by
  have G_law_draw : FnOk P w K mg base CX0 1 fD fdD P__law_draw spDraw := ok_draw FD T.toTxtA
  refine F.ok sc__law_shape (fun vs H Q E h => ?_) (fun cdv A outer s H vs Q E hr h => ?_)
  · obtain ⟨p, c, z, most, n, rfl, _⟩ := h
    rfl
  · obtain ⟨p, c, z, most, n, rfl, hp, hn, hm1, hm8, hz, k⟩ := h
    have hu := hu_of hr
    refine ⟨_, (pss_cons (ps_asg (pe_tup (pa_cons (pe_op op_add pe_int (pe_call G_law_draw (hr.mono (by decide)) (by rfl) T.m_law_draw T.k_law_draw b_law_draw .nil pass0 (pa_cons (pv 0) (pa_cons (pv 2) pa_nil)))) (pa_cons (pe_lst pa_nil) pa_nil))) (pg_tup (by rfl) (pgs_cons (pg_name (i := 3) sc__law_shape.nd rfl (Or.inr rfl)) (pgs_cons (pg_name (i := 4) sc__law_shape.nd rfl (Or.inl rfl)) pgs_nil))))
      (pss_cons (ps_for PassesOwn.never rfl (pi_range1 (by rfl) T.range (pa_cons (pv 3) pa_nil)) (pg_name (i := 5) sc__law_shape.nd rfl (Or.inl rfl)) (pss_one (ps_expr (pe_bm PySem.F.plainAttrs_list PySem.F.slot_list_append PySem.F.type_list_append mt_append (pv 4) (pa_cons (pe_lc (own := [("_law_letter", 7)]) (g := gName 7) (by rfl) sc__law_shape.nd (pi_str (pv 1)) (blkOk_by (own := [("_law_letter", 7)]) (N := N__law_shape) (sc := defScope s__law_shape) (by decide +kernel)) (fun _ _ _ _ _ => pg_name (i := 7) sc__law_shape.nd rfl (Or.inl rfl)) (fun _ _ _ _ _ => pts_nil) (fun _ _ _ _ _ => (pe_call G_law_draw (hr.mono (by decide)) (by rfl) T.m_law_draw T.k_law_draw b_law_draw .nil pass0 (pa_cons (pv 0) (pa_cons (pv 3) pa_nil))))) pa_nil)))))
      (pss_cons (ps_setLc (i := 6) (own := [("_law_state", 5)]) (g := gName 5) (by rfl) sc__law_shape.nd rfl rfl (sw_true rfl rfl rfl (by decide +kernel)) (pi_range1 (by rfl) T.range (pa_cons (pv 3) pa_nil)) (blkOk_by (own := [("_law_state", 5)]) (N := N__law_shape) (sc := defScope s__law_shape) (by decide +kernel)) (fun _ _ _ _ _ => pg_name (i := 5) sc__law_shape.nd rfl (Or.inl rfl)) (fun _ _ _ _ _ => (pts_one (pt_cmpR op_eq (pe_call G_law_draw (hr.mono (by decide)) (by rfl) T.m_law_draw T.k_law_draw b_law_draw .nil pass0 (pa_cons (pv 0) (pa_cons pe_int pa_nil))) pe_int (nomark _)))) (fun _ _ _ _ _ => (pv 5)))
      (pss_one (ps_ret (pe_tup (pa_cons (pv 1) (pa_cons (pv 4) (pa_cons (pe_ifExp (pt_cmpR (op_neD hr.units) (pv 6) (pe_lst pa_nil) (nomark _)) (pv 6) (pe_lst (pa_cons (pe_call G_law_draw (hr.mono (by decide)) (by rfl) T.m_law_draw T.k_law_draw b_law_draw .nil pass0 (pa_cons (pv 0) (pa_cons (pv 3) pa_nil))) pa_nil))) pa_nil))))))))), ?_⟩
    have hLz : (TL.tl z).length ≤ 3 := by rw [← TL.len_tl]; exact hz
    refine ⟨_, rfl, _, rfl, p, c, _, n, rfl, hp, by omega, by omega, by omega, fun d H1 d0 d1 hp1 k1 => ⟨_, _, rfl, rfl, by show 0 ≤ sizeLine; decide, fun R hR => ⟨by show 2 ≤ sizeLine; decide, fun tt htt => ?_⟩⟩⟩
    obtain ⟨nRp, nRc⟩ := hp1.new hR
    have s2 : Same H1 (L2.upd (L2.upd H1 R (.lst [])) tt (.tup [.int (1 + d), .ref R])) := (same_new hR).trans (same_new htt)
    have hR2 : (L2.upd (L2.upd H1 R (.lst [])) tt (.tup [.int (1 + d), .ref R])) R = some (.lst []) := same_new htt _ _ upd_same
    have ht2 : (L2.upd (L2.upd H1 R (.lst [])) tt (.tup [.int (1 + d), .ref R])) tt = some (.tup [.int (1 + d), .ref R]) := upd_same
    have hp2 := hp1.same s2
    have k2 : Kp p H1 (L2.upd (L2.upd H1 R (.lst [])) tt (.tup [.int (1 + d), .ref R])) := Kp.of s2
    refine ⟨tt, _, rfl, SqT.of ht2, rfl, _, _, rfl, _, _, rfl, rfl, ?_⟩
    change tSeq _ _ _ _ (L2.upd (L2.upd H1 R (.lst [])) tt (.tup [.int (1 + d), .ref R]))
    generalize L2.upd (L2.upd H1 R (.lst [])) tt (.tup [.int (1 + d), .ref R]) = H2 at hR2 hp2 k2 ⊢
    have hd8 : (1 + d).toNat ≤ 8 := by omega
    refine ⟨_, rfl, 1 + d, rfl, by omega, by omega, for_range (n := (1 + d).toNat) (fun i σ H3 => ∃ (v5 v6 v7 : Option V) (rs : List Addr) (gs : List (List Int)), σ = [some (.ref p), some (.str z), some (.int most), some (.int (1 + d)), some (.ref R), v5, v6, v7] ∧
      H3 R = some (.lst (rs.map V.ref)) ∧ Forall2 (fun (r : Addr) (row : List Int) => H3 r = some (.lst (row.map V.int))) rs gs ∧ (∀ r ∈ rs, r ≠ R) ∧ gs.length = i ∧ (∀ row ∈ gs, row.length = z.length ∧ ∀ g ∈ row, 0 ≤ g ∧ g < 1 + d) ∧ Pen H3 p c (n + 1 + i * 3) ∧ Kp p H1 H3)
      ⟨none, none, none, [], [], rfl, hR2, ⟨rfl, fun i x y e1 e2 => nomatch e1⟩, (fun r hr => nomatch hr), rfl, (fun r hr => nomatch hr), hp2, k2⟩ ?_ ?_⟩
    · rintro i σ H3 hi ⟨v5, v6, v7, rs, gs, rfl, hR3, hrs, hne, hgl, hrow, hp3, k3⟩
      refine ⟨_, rfl, Or.inl ⟨rfl, _, SqL.of hR3⟩, _, rfl, z, rfl, fun D hD => lc_it walk_strS (fun j H4 => ∃ row : List Int, H4 D = some (.lst (row.map V.int)) ∧ row.length = j ∧ (∀ g ∈ row, 0 ≤ g ∧ g < 1 + d) ∧ Pen H4 p c (n + 1 + i * 3 + j) ∧ Kp p H3 H4) ⟨[], upd_same, rfl, (fun r hr => nomatch hr), hp3.same (same_new hD), Kp.of (same_new hD)⟩ (fun _ _ _ _ => trivial) ?_ ?_⟩
      · rintro j x H4' H4 hj ⟨row, hD4, hrl, hrg, hp4, k4⟩ ⟨rfl, cc, hcc, rfl⟩
        obtain ⟨nDp, nDc⟩ := hp3.new hD
        have hj3 : j < 3 := by
          have := (List.getElem?_eq_some_iff.mp hcc).1
          omega
        refine ⟨rfl, ?_⟩
        refine lcYes ?_
        refine ⟨_, rfl, _, rfl, p, c, 1 + d, _, rfl, hp4, by omega, by omega, by omega, fun g H5 g0 g1 hp5 k5 => ?_⟩
        have hD5 := k5 _ _ hD4 nDp
        refine ⟨_, hD5, ?_, row ++ [g], ?_, ?_, fun x hx => ?_, ?_, (k4.trans k5).put hD⟩
        · rw [List.length_map]; exact small1000 (by omega)
        · rw [upd_same, List.map_append, List.map_singleton]
        · rw [List.length_append, hrl]; rfl
        · rcases List.mem_append.mp hx with q | q
          · exact hrg x q
          · rw [List.mem_singleton.mp q]; exact ⟨g0, g1⟩
        · exact (hp5.put nDp nDc).mono (by omega)
      · rintro H4 ⟨row, hD4, hrl, hrg, hp4, k4⟩
        have hR4 := k4 _ _ hR3 nRp
        obtain ⟨kv3, hd3⟩ := hp3.dk
        have nDR : D ≠ R := (ne_of_none hR3 hD).symm
        have hrs4 : Forall2 (fun (q : Addr) (row : List Int) => (L2.upd H4 R (.lst (rs.map V.ref ++ [.ref D]))) q = some (.lst (row.map V.int))) rs gs := ⟨hrs.1, fun i x y e1 e2 => by
          have h3 := hrs.2 i x y e1 e2
          show (L2.upd H4 R _) x = _
          rw [upd_ne (hne x (List.mem_of_getElem? e1))]
          exact k4 _ _ h3 (L2.ne_of h3 hd3 (fun z => nomatch z))⟩
        refine ⟨R, _, _, rfl, rfl, hR4, small1000 (by rw [List.length_map, hrs.1]; omega), _, _, _, rs ++ [D], gs ++ [row], rfl, by rw [upd_same, List.map_append]; rfl, hrs4.snoc (by rw [upd_ne nDR]; exact hD4), fun q hq => ?_, by rw [List.length_append, hgl]; rfl, fun x hx => ?_, (hp4.put nRp nRc).mono (by rw [← TL.len_tl] at hLz; omega), (k3.trans k4).put hR⟩
        · rcases List.mem_append.mp hq with h | h
          · exact hne q h
          · rw [List.mem_singleton.mp h]; exact nDR
        · rcases List.mem_append.mp hx with h | h
          · exact hrow x h
          · rw [List.mem_singleton.mp h]
            exact ⟨hrl, hrg⟩
    · rintro σ H3 ⟨v5, v6, v7, rs, gs, rfl, hR3, hrs, hne, hgl, hrow, hp3, k3⟩
      have hgn : GoodRows z.length gs := ⟨fun j hj hb => by
        obtain ⟨h1, h2⟩ := hrow _ (List.getElem_mem hj)
        rcases hb with h | ⟨g, hg, h⟩
        · exact h h1
        · have := h2 g hg
          exact h (by omega), by omega⟩
      obtain ⟨kv3, hd3⟩ := hp3.dk
      refine ⟨_, rfl, 1 + d, rfl, by omega, by omega, fun D hD => lc_range (lo := 0) (n := (1 + d).toNat) (fun j H4 => ∃ es : List Int, H4 D = some (.lst (es.map V.int)) ∧ (∀ e ∈ es, 0 ≤ e ∧ e < j) ∧ es.length ≤ j ∧ Pen H4 p c (n + 1 + (1 + d).toNat * 3 + j) ∧ Kp p H3 H4) ⟨[], upd_same, (fun r hr => nomatch hr), Nat.le_refl _, hp3.same (same_new hD), Kp.of (same_new hD)⟩ ?_ ?_⟩
      · rintro j H4 hj ⟨es, hD4, hes, hel, hp4, k4⟩
        obtain ⟨nDp, nDc⟩ := hp3.new hD
        refine ⟨rfl, ?_⟩
        refine ⟨_, rfl, p, c, 2, _, rfl, hp4, by omega, by decide, by decide, fun g H5 g0 g1 hp5 k5 => ⟨rfl, _, rfl, ?_⟩⟩
        have hD5 := k5 _ _ hD4 nDp
        refine ite2 (fun c1 => ?_) (fun c1 => ?_)
        · refine ⟨_, rfl, _, hD5, ?_, es ++ [(j : Int)], ?_, fun e he => ?_, ?_, ?_, (k4.trans k5).put hD⟩
          · rw [List.length_map]; exact small1000 (by omega)
          · rw [upd_same, List.map_append, List.map_singleton, Int.zero_add]
          · rcases List.mem_append.mp he with q | q
            · have := hes e q; omega
            · rw [List.mem_singleton.mp q]; omega
          · rw [List.length_append, List.length_singleton]; omega
          · exact (hp5.put nDp nDc).mono (by omega)
        · exact ⟨es, hD5, fun e he => by have := hes e he; omega, by omega, hp5.mono (by omega), k4.trans k5⟩
      · rintro H4 ⟨es, hD4, hes, hel, hp4, k4⟩
        have hR4 := k4 _ _ hR3 nRp
        have hrs4 : Forall2 (fun (q : Addr) (row : List Int) => H4 q = some (.lst (row.map V.int))) rs gs := hrs.imp fun x y _ h => k4 _ _ h (L2.ne_of h hd3 (fun z => nomatch z))
        refine ⟨_, rfl, _, rfl, _, rfl, by show 0 ≤ sizeLine; decide, fun E1 hE1 => ⟨intsD es, intsD [], .lst (SqL.of (same_new hE1 _ _ hD4)) (dpAll_ints _ _ _), .lst (xs := []) (SqL.of upd_same) .nil, shaped_intsD _, shaped_intsD _, _, rfl, ?_⟩⟩
        have s5 : Same H4 (L2.upd H4 E1 (.lst [])) := same_new hE1
        generalize L2.upd H4 E1 (.lst []) = H5 at s5 ⊢
        rw [eqv_intsD]
        have fin : ∀ (G : Addr) (H6 : Hp) (es' : List Int), H6 G = some (.lst (es'.map V.int)) → Kp p H4 H6 → Pen H6 p c (n + 1 + (1 + d).toNat * 3 + (1 + d).toNat + 1) → (∀ e ∈ es', 0 ≤ e ∧ e < (gs.length : Nat)) → es'.length ≤ 8 → 0 < es'.length → ∀ t, H6 t = none → Q (.ref t) (L2.upd H6 t (.tup [.str z, .ref R, .ref G])) := fun G H6 es' hG k6 hp6 he hl hpos t ht => by
          obtain ⟨kv4, hd4⟩ := hp4.dk
          refine k t _ gs es' ⟨R, G, rs, upd_same, same_new ht _ _ (k6 _ _ hR4 nRp), hrs4.imp fun x y _ h => same_new ht _ _ (k6 _ _ h (L2.ne_of h hd4 (fun z => nomatch z))), same_new ht _ _ hG⟩ hgn (by omega) he hl hpos ((hp6.same (same_new ht)).mono (by omega)) ?_
          exact (((k1.trans k3).trans k4).trans k6).trans (Kp.of (same_new ht))
        by_cases he : es = []
        · rw [show decide (es = []) = true from decide_eq_true he]
          refine ite2 (fun c => absurd c (by decide)) (fun _ => ?_)
          have hp5 := hp4.same s5
          refine ⟨_, rfl, _, rfl, p, c, 1 + d, _, rfl, hp5, by omega, by omega, by omega, fun g H6 g0 g1 hp6 k6 => ⟨by show 1 ≤ sizeLine; decide, fun G hG => ⟨by show 3 ≤ sizeLine; decide, fun t ht => ?_⟩⟩⟩
          exact fin G _ [g] upd_same (((Kp.of s5).trans k6).trans (Kp.of (same_new hG))) ((hp6.same (same_new hG)).mono (by omega)) (fun e he => by rw [List.mem_singleton.mp he]; omega) (by show 1 ≤ 8; decide) (by show 0 < 1; decide) t ht
        · rw [show decide (es = []) = false from decide_eq_false he]
          refine ite2 (fun _ => ?_) (fun c => absurd rfl c)
          refine ⟨_, rfl, by show 3 ≤ sizeLine; decide, fun t ht => ?_⟩
          exact fin D H5 es (s5 _ _ hD4) (Kp.of s5) ((hp4.same s5).mono (by omega)) (fun e he => by have := hes e he; omega) (by omega) (List.length_pos_iff.mpr he) t ht
end
end Vf
set_option Elab.async false
set_option linter.all false
set_option maxRecDepth 100000
set_option maxHeartbeats 4000000
/-! str(x) by an own __str__; x op y by an own def, y a text -/
namespace Vf
open PySem PySem.Spec PyProof.Rows L2
section
variable {X : Cx} {CX : CXT} {n : Nat} {C f : Addr} {fd : FuncData} {ps : List Str} {sp : Sp} {E : XK}
def rStrI (C : Addr) (sp : Sp) (E : XK) : List V → Hp → VK → Prop := fun xs H Q => ∃ a dx fs, xs = [.ref a] ∧ H a = some (.ins C dx fs) ∧ sp [.ref a] H (fun z H' => ∃ y, z = .str y ∧ Q (.str y) H') E
theorem call_strI (hs : PySem.W.findIn X.K (.ref C) "__str__" = some (some (.ref f))) (hf : PySem.W.isFn X.K (.ref f) = true) (F : FnOk X.prog X.w X.K X.mg X.base CX n f fd ps sp)
    (hr : Room (n + 2) X.A) (hb : Binds X.K fd ps []) (hx : Passes CX X E) : CallR X (.type "str") (rStrI C sp E) := by
  intro pins s σ H xs us Q I r h
  obtain ⟨a, dx, fs, rfl, ha, q⟩ := h
  obtain ⟨u, rfl, ru⟩ := vals1 r
  cases (show u = Value.ref a from ru)
  obtain ⟨mA, J, _⟩ := ins_get I.hok ha
  obtain ⟨od, J, _⟩ := J.look
  refine callType_newIn PySem.F.called_str (by decide) (PySem.F.typeCall_str_1 _) (PySem.F.newCall_str_1 _) (fun obj => PySem.F.args_object_init_2 obj _) PySem.F.entry_str_new
    (S := fun A R s' => s' = s ∧ Sub X (n + 1) A ∧ (∀ y t s1 H', Inv X pins σ H' s1 → Q (.str y) H' → R (.ok (.ret (.str y t))) s1) ∧ ∀ e s1, X.xe e s1 → R (.error e) s1)
    (.of_wp fun A R s' hS => ?_) ⟨rfl, ⟨hr.in1, rfl⟩, fun y t s1 H' I1 q1 => ⟨typeIs_str _ _ _, .str y, H', I1, ⟨t, rfl⟩, q1⟩, fun e s1 z => z⟩
  obtain ⟨rfl, sb, h1, h2⟩ := hS
  rw [str_new_tree]
  refine wpAny_bind (wpAny_pure (wpAny_bind (wpAny_of_eq isSubtype_str_str (wpAny_bind ?_))))
  unfold Builtin.Str.strOf
  rw [if_neg (show ¬ Builtin.Str.isExactStr (.ref a) = true from Bool.false_ne_true)]
  refine wpAny_bind (wpAny_cRoomFor (by have := sb.room.un; show A.units + 1 < cLine; omega) (wpAny_bind (m := callSpecial? (.ref a) (PySem.Str.ofString "__str__")) (PySem.W.special_fn I.kIn J hs (beq_iff_eq.mp hf) ?_)))
  refine wpAny_mono (run_ok (us := [.ref a]) (ws := [.ref a]) F hb hx sb.in1 I (.cons rfl .nil) q) (fun w s1 z => ?_) (fun e s1 z => h2 e s1 z)
  obtain ⟨z', H', I1, rz, y, rfl, qy⟩ := z
  obtain ⟨t, rfl⟩ := (show ∃ t, w = Value.str y t from rz)
  refine wpAny_bind (m := asStr? (.str y t)) (wpAny_pure ?_)
  show wpAny _ _ (pure (Value.str y t)) _ _ _
  exact wpAny_pure (wpAny_pure ⟨_, rfl, h1 y t s1 H' I1 qy⟩)
/-- x op y, y a text -/
def rOwnS (C : Addr) (sp : Sp) (E : XK) : R2 := fun x y H Q => ∃ a dx fs z, x = .ref a ∧ y = .str z ∧ H a = some (.ins C dx fs) ∧ sp [x, y] H Q E
theorem op_ownS {op : CmpOp} (hop : ∀ a b, compareOp op a b = richCompare op a b) (hs : PySem.W.findIn X.K (.ref C) (cmpInfo op).2.1 = some (some (.ref f))) (hf : PySem.W.isFn X.K (.ref f) = true) (F : FnOk X.prog X.w X.K X.mg X.base CX n f fd ps sp)
    (hr : Room n X.A) (hb : Binds X.K fd ps []) (hx : Passes CX X E) (hn : PySem.W.subIn X.K (.type "str") (.ref C) = some false) : OpR X (compareOp op) (rOwnS C sp E) := by
  intro pins s σ H x y v u Q I rx ry h
  obtain ⟨a, dx, fs, z, rfl, rfl, ha, q⟩ := h
  cases (show v = Value.ref a from rx)
  obtain ⟨t, rfl⟩ := (show ∃ t, u = Value.str z t from ry)
  obtain ⟨mA, J, _⟩ := ins_get I.hok ha
  obtain ⟨od, J, _⟩ := J.look
  obtain ⟨m, hF⟩ := I.fr
  have J' : PySem.W.Looks (model X.prog X.w) s.heap (typeOf (.str z t)) (.type "str") := .of_pure rfl
  rw [hop]
  refine PySem.W.cmp_K (op := op) (tb := .type "str") hr.units0 hF I.ok.mod.kin J J' (by simp [PySem.W.notFirst, hn]) hs hf ?_
  refine wpAny_mono (run_ok (us := [.ref a, .str z t]) (ws := [.ref a, .str z]) F hb hx ⟨hr, rfl⟩ I (.cons rfl (.cons ⟨t, rfl⟩ .nil)) q) (fun w s' z => ?_) fun _ _ x => x
  obtain ⟨z', H', I', rz, qz⟩ := z
  exact SlX.cmpback rz ⟨z', H', I', rz, qz⟩
end
/-- a dict comprehension over any walk -/
theorem dc_it {J : It} {n : Nat} {G : Hp → Prop} {Y : Nat → Hp → V → Hp → Prop} (w : Walk J n G Y) {g : TG} {tt : TT} {tk tv : TE} {vs : List Nat} {σ : L2.St} {H1 : Hp} {D : Addr} {Qd : Hp → Prop} (Pv : Nat → Hp → Prop) (h0 : Pv 0 (L2.upd H1 D (.dK []))) (hG : ∀ i H, i ≤ n → Pv i H → G H)
    (hs : ∀ i x H H', i < n → Pv i H → Y i H x H' → g x (wipe σ vs) H' fun σ2 H2 => wipe σ2 vs = wipe σ vs ∧ tt σ2 H2 fun b H3 =>
      if b = true then tk σ2 H3 fun y H4 => tv σ2 H4 fun z H5 => ∃ kvs k, y = kV k ∧ H5 D = some (.dK kvs) ∧ kvs.length < sizeLine ∧ Pv (i + 1) (L2.upd H5 D (.dK (putK kvs k z))) else Pv (i + 1) H3) (hd : ∀ H, Pv n H → Qd H) :
    ∃ W : Nat → Nat → Hp → Prop, (∃ m, W 0 m (L2.upd H1 D (.dK []))) ∧ ∀ i m H, W i m H →
      (J.stop i H ∧ Qd H) ∨ (J.go i H ∧ ∃ Nx : Hp → Prop, (∀ H', Nx H' → ∃ m', m' < m ∧ W (i + 1) m' H') ∧ ∀ x H', J.yld i H x H' → g x (wipe σ vs) H' fun σ2 H2 => wipe σ2 vs = wipe σ vs ∧ tt σ2 H2 fun b H3 =>
        if b = true then tk σ2 H3 fun y H4 => tv σ2 H4 fun z H5 => ∃ kvs k, y = kV k ∧ H5 D = some (.dK kvs) ∧ kvs.length < sizeLine ∧ Nx (L2.upd H5 D (.dK (putK kvs k z))) else Nx H3) := by
  refine ⟨fun i m H => m = n - i ∧ i ≤ n ∧ Pv i H, ⟨n, by simp, Nat.zero_le _, h0⟩, ?_⟩
  rintro i m H ⟨rfl, hi, p⟩
  have q := hG i H hi p
  by_cases hlt : i < n
  · refine .inr ⟨w.goes i H hlt q, Pv (i + 1), fun H' p' => ⟨n - (i + 1), by omega, rfl, hlt, p'⟩, fun x H' y => hs i x H H' hlt p (w.yields i H x H' hlt q y)⟩
  · have e : i = n := by omega
    subst e
    exact .inl ⟨w.stops H q, hd H p⟩
section
variable {X : Cx}
theorem sw_dc {kx vx : Expr} {gs : List Comprehension} {scope : Scope} {pos py : Pos} {y : Str} {l : Nat} {env : Env} (hk : env.scope.kind = .function) (hy : env.scope.names.lookup y = some .local) (hl : (py.line == pos.line) = true)
    (ha : (scope.names.any fun (n, k) => n == y && (k == .local || k == .cell)) = false) : swapsWith (.DictComp kx vx gs scope pos) (some (.Name y py)) l env = pure true := by
  have ky : env.kindOf y = some .local := hy
  have hb : env.blockKind = .function := by unfold Env.blockKind; rw [hk]; rfl
  unfold swapsWith
  simp only [hb, ky, ha, Expr.pos, hl]
  rfl
/-- name = a dict comprehension, the name a local -/
theorem ps_setDc {i : Nat} {y : Str} {py : Pos} {kx vx tg iter : Expr} {ifs : List Expr} {scope : Scope} {own : List (Str × Nat)} {pos spos : Pos} {wi : TI} {g : TG} {tt : TT} {tk tv : TE} (hc : X.calm = true) (hN : X.N.Nodup) (hy : X.N[i]? = some y) (hyl : X.env.scope.names.lookup y = some .local)
    (hsw : swapsWith (.DictComp kx vx [⟨tg, iter, ifs, 0⟩] scope pos) (some (.Name y py)) spos.line X.env = pure true) (hi : PI X tg iter wi) (ok : BlkOk X.N X.env.scope scope own)
    (hg : ∀ (s : Shared) (H : Hp) (C : Addr) (cl : List (Str × Addr)) (fp : List Addr), PG (X.blk s H scope (compEnvC scope cl C X.env) fp) tg g) (ht : ∀ (s : Shared) (H : Hp) (C : Addr) (cl : List (Str × Addr)) (fp : List Addr), PTs (X.blk s H scope (compEnvC scope cl C X.env) fp) ifs tt)
    (hk : ∀ (s : Shared) (H : Hp) (C : Addr) (cl : List (Str × Addr)) (fp : List Addr), PE (X.blk s H scope (compEnvC scope cl C X.env) fp) kx tk)
    (he : ∀ (s : Shared) (H : Hp) (C : Addr) (cl : List (Str × Addr)) (fp : List Addr), PE (X.blk s H scope (compEnvC scope cl C X.env) fp) vx tv) (hs : ∀ x, foldedSetIterable iter X.env x = pure x := by intro _; rfl) :
    PS X (.Assign [.Name y py] (.DictComp kx vx [⟨tg, iter, ifs, 0⟩] scope pos) spos) (tAsg (tDc wi g tt tk tv (own.map (·.2))) (gName i)) := by
  refine ⟨fun pins s σ H D I h => ?_⟩
  rw [exec_Assign_Name_used _ _ _ _ hsw]
  refine wpAny_bind (wpAny_standAt (wpAny_bind ?_))
  have h : tDc wi g tt tk tv (own.map (·.2)) σ H (fun x H1 => gName i x σ H1 D.nx) := h
  refine wpAny_bind (thn (dc_core (use := some (assign (.Name y py) X.env)) (pos' := firstIterPos [⟨tg, iter, ifs, 0⟩] pos) (Qf := fun _ s' => SP X pins D .next s') hc hN I hi ok hg ht hk he hs h fun L C s' m H' I' q hn f => ?_) fun _ s' hq => wpAny_pure (wpAny_pure hq))
  show wpAny _ _ (assign (.Name y py) X.env (.ref L)) _ _ _
  refine wpAny_assign_Name (store_ok2 (v := V.ref L) I' hN hy (.inl hyl) rfl (fun s2 I2 ⟨a, sb, ha⟩ => ?_) (.inr hyl))
  obtain ⟨f0, f1, f2, f3, f4, f5⟩ := f
  have haC : C ≠ a := by
    rcases ha with z | z
    · rw [z]; exact f1
    · exact fun e => f4 y a z e.symm
  exact ⟨m, hn.sameBut sb haC, fun h3 sb3 => ⟨_, H', I2.turned (t' := s2.toks) (fun b o hb e => (sb3.2 b hb).trans e) f0 f1 f3 f4 f5, q⟩⟩
end
end Vf
set_option Elab.async false
set_option linter.all false
set_option maxRecDepth 100000
set_option maxHeartbeats 4000000
/-! isinstance of a caught error of an own class, with or without fields -/
namespace Vf
open PySem
/-! where lambdas stand: in lists, in expressions that are statements -/
def lstN : PySem.Expr → Nat → PySem.Expr
  | .List es _, i => es.getD i (.Constant .none 0 ⟨0, 0, 0, 0⟩)
  | e, _ => e
def stExp : Stmt → PySem.Expr
  | .Expr v _ => v
  | _ => .Constant .none 0 ⟨0, 0, 0, 0⟩
end Vf
namespace Vf
open PySem PySem.Spec PySem.Calls PyProof.Rows PySem.W
section
variable {prog : Program} {w : World} {A : Around} {K : PySem.W.Frag} {x D : Addr} {ox : Obj} {od : Option Obj}
/-- a data descriptor of the class goes ahead of what the instance's dict holds -/
theorem found_desc {name : Str} {a g : Value} (hc : (clsIn K D).isSome = true) (ha : findIn K (.ref D) name = some (some a)) (hg : specialIn K a "__get__" = some (some g)) (ht : takesIn K a = some true) : findObj K D od name = some (.bind g a) := by
  obtain ⟨cd, hc⟩ := Option.isSome_iff_exists.mp hc
  simp only [findObj, hc, Option.bind_some, ha, hg, ht]
theorem class_of_exc {E : Value → Shared → Prop} {s : Shared} {Q : Option Value → Shared → Prop} (C : L2.ExcC K D) (X : K.In s.heap) (I : InstAt s.heap x ox D od) (h : Q (some (.ref D)) { s with toks := s.toks + 1 }) :
    wpAny (model prog w) A (getAttr? (.ref x) "__class__") Q E s := by
  have hf : findObj K D od "__class__" = some (.bind (.builtin "getset_descriptor.__get__") (.builtin "object.__class__")) := found_desc (by obtain ⟨cd, hc, _⟩ := any_some C.hd; simp [hc]) C.ha C.hn C.ht
  have hm := C.hm
  obtain ⟨hp, g, d, t, os⟩ := s
  have M0 : Looks (model prog w) hp (typeOf (.ref x)) (.ref D) := I.type
  have M1 := looks_findIn (M := model prog w) X C.hg
  have M2 := looks_findIn (M := model prog w) X C.hk
  have M3 := looks_find (M := model prog w) X I hf
  have isEx : Looks (model prog w) hp (isInstance (.ref x) (.type "BaseException")) true := M0.andThen (looks_subIn X C.hs)
  have b0 : (false && onTheHeap (Value.builtin "BaseException.__getattribute__")) = false := rfl
  have b1 : (Value.builtin "BaseException.__getattribute__" == Value.builtin "object.__getattribute__") = false := by decide +kernel
  have b2 : (onTheHeap (Value.ref D) && Value.builtin "BaseException.__getattribute__" == Value.builtin "object.__getattribute__") = false := by simp [b1]
  unfold getAttr? getAttrBy? getAttrBy
  refine wpAny_bind (wpAny_mkText (wpAny_bind (wpAny_attempt (wpAny_holding (wpAny_bind (M0.at (wpAny_bind (M1.at ?_))))))))
  show wpAny (model prog w) A (if (onTheHeap (Value.ref D) && Value.builtin "BaseException.__getattribute__" == Value.builtin "object.__getattribute__") = true then _ else _) _ _ _
  rw [b2, if_neg Bool.false_ne_true]
  unfold getAttrByItsOwn hookBefore
  refine wpAny_bind ?_
  rw [if_pos (show onTheHeap (Value.ref D) = true by rfl)]
  refine M2.at (wpAny_bind (wpAny_attempt (wpAny_holding ?_)))
  unfold callGetattribute
  rw [b0, if_neg Bool.false_ne_true]
  unfold boundAndCalled
  rw [PySem.F.excAttr_ValueError.ga.bind (.ref x)]
  refine wpAny_bind (wpAny_pure ?_)
  show wpAny (model prog w) _ (call (.builtin "BaseException.__getattribute__") [.ref x, .str "__class__" t]) _ _ _
  refine wpAny_call (codeAny_call_builtin PySem.F.excAttr_ValueError.ga.plain PySem.F.entry_bexc_ga (@check_slot (model prog w) _ _ ⟨hp, g, d, t + 1, os⟩ "BaseException.__getattribute__" "BaseException" "__getattribute__" (.ref x) [.str "__class__" t] [] _ (by decide +kernel) (by decide +kernel) isEx (PySem.F.args_bexc_ga (.ref x) (.str "__class__" t)) ?_))
  unfold Builtin.«object.__getattribute__»
  refine wpAny_bind (wpAny_of_eq (a := ((Value.ref x : Value), [Value.str "__class__" t])) (by first | rfl | (simp only [slotArgs]; rfl)) (wpAny_bind (wpAny_pure (wpAny_bind (M0.at (wpAny_bind (M3.at ?_)))))))
  show wpAny (model prog w) _ (holding [Value.builtin "object.__class__"] (call (.builtin "getset_descriptor.__get__") [.builtin "object.__class__", .ref x, .ref D]) >>= ret) _ _ _
  refine wpAny_bind (wpAny_holding (wpAny_call (class_get (s := ⟨hp, g, d, t + 1, os⟩) (ox := ox) (od := od) X I hm (wpAny_pure ?_))))
  show wpAny (model prog w) _ (handedOut (.ref D)) _ _ _
  rw [handedOut_of (v := .ref D) rfl]
  first | exact wpAny_pure (wpAny_pure h) | exact wpAny_pure h | exact wpAny_pure (wpAny_bind (wpAny_pure (wpAny_pure h)))
theorem kit_exc (C : L2.ExcC K D) : KitX K (.ref x) (.ref D) (fun h => InstAt h x ox D od) where
  ty := fun M h X I => I.type
  it := fun M h X I => by
    obtain ⟨cd, hc, _⟩ := any_some C.hd
    unfold clsIn at hc
    split at hc
    · rename_i c' d' cd' sl' ho
      intro A' Q' E' s' k q
      unfold isType loadHead
      exact wpAny_bind (wpAny_loadPart (k _ _ (X _ _ ho)) (wpAny_pure q))
    · cases hc
  ne := fun h tp dd its n sl X htp => by
    obtain ⟨cd, hc, _⟩ := any_some C.hd
    refine beq_eq_false_iff_ne.mpr fun q => ?_
    have e : D = tp := Value.ref.inj q
    subst e
    unfold clsIn at hc
    split at hc
    · rename_i c' d' cd' sl' ho
      have := (X _ _ ho).symm.trans htp
      cases this
    · cases hc
  ca := fun X I k => class_of_exc C X I k
end
end Vf
namespace L2
open PySem PySem.Spec PyProof.Rows
/-- isinstance(e, c), e the exception that the suite holds: with a dict, or without -/
def rIsX (K : PySem.W.Frag) (a : Addr) (cls : Value) (d : Option Addr) : List V → Hp → VK → Prop := fun xs H Q => ∃ (D : Addr) (c : V) (cv : Value) (b : Bool), cls = .ref D ∧ ExcC K D ∧ (d = none ∨ ∃ (dd : Addr) (fs : List (Str × V)), d = some dd ∧ H dd = some (.xd fs)) ∧
  xs = [.ref a, c] ∧ (∀ u, RelV c u → u = cv) ∧ PySem.W.kitOne K (.ref D) cv = some b ∧ Q (.bl b) H
theorem call_isX {X : Cx} {a : Addr} {cls : Value} {d : Option Addr} {oe : Obj} {pn : List (Addr × Obj)} (hz : Zc cls d oe) (hf : ∃ vs, oe.data = .fields vs) : CallR (X.suite a ((a, oe) :: pn)) (.builtin "isinstance") (rIsX X.K a cls d) := by
  intro pins s σ H xs us Q I r h
  obtain ⟨D, c, cv, b, rfl, C, hd, rfl, hcv, e, q⟩ := h
  cases r with
  | cons rx rr =>
    cases rr with
    | cons rt rr =>
      cases rr
      cases rx
      obtain rfl := hcv _ rt
      obtain ⟨hget, _⟩ := I.pin (a, oe) (List.mem_append_left _ List.mem_cons_self)
      obtain ⟨vs, hv⟩ := hf
      obtain ⟨od, J⟩ : ∃ od, PySem.W.InstAt s.heap a oe D od := by
        have hno : PySem.W.notCls oe = true := by unfold PySem.W.notCls; rw [hv] <;> rfl
        rcases hd with rfl | ⟨dd, fs, rfl, ea⟩
        · exact ⟨none, hget, hz.1, hno, by rw [hz.2]; trivial⟩
        · have hx : ObjOk X.prog X.w H s.heap dd (.xd fs) := I.hok dd _ ea
          obtain ⟨mA, hns, _⟩ := hx
          obtain ⟨od, ho, _⟩ := lookIn_ns hns
          exact ⟨some od, hget, hz.1, hno, by rw [hz.2]; exact ho⟩
      exact PySem.W.kia_one (Vf.kit_exc C) I.kIn J e (fun z => nomatch z) fun tk => ⟨.bl b, H, I.kept (t' := tk) fun _ _ z => z, rfl, q⟩
end L2
set_option Elab.async false
set_option linter.all false
set_option maxRecDepth 100000
set_option maxHeartbeats 4000000
namespace Vf
open PySem L2 PyProof.Rows
theorem sum_le : ∀ {ys : List Str} {B : Nat}, (∀ y ∈ ys, y.length ≤ B) → (ys.map (·.length)).sum ≤ ys.length * B
  | [], _, _ => Nat.zero_le _
  | y :: ys, B, h => by
    have h1 := h y List.mem_cons_self
    have h2 := sum_le (ys := ys) (B := B) fun x hx => h x (List.mem_cons_of_mem _ hx)
    rw [List.map_cons, List.sum_cons, List.length_cons, Nat.add_mul]
    omega
theorem join_le {sep : Str} {ys : List Str} {B : Nat} (h : ∀ y ∈ ys, y.length ≤ B) : (Txt.join sep ys).length ≤ ys.length * (B + sep.length) := by
  rw [TL.join_eq]
  refine Nat.le_trans (StrLaws.join_length_le sep ys) ?_
  rw [Nat.mul_add]
  exact Nat.add_le_add_right (sum_le h) _
theorem good_row {m : Nat} {gs : List (List Int)} {i : Nat} (h : GoodRows m gs) (hi : i < gs.length) : gs[i].length = m ∧ ∀ g ∈ gs[i], 0 ≤ g ∧ g < gs.length := by
  have := h.1 i hi
  exact ⟨Classical.byContradiction fun q => this (Or.inl q), fun g hg => Classical.byContradiction fun q => this (Or.inr ⟨g, hg, q⟩)⟩
theorem not_badRow {m : Nat} {gs : List (List Int)} {i : Nat} (h : GoodRows m gs) : ¬ BadRow m gs i := by
  rintro (⟨hi, hb, _⟩ | ⟨_, h0⟩)
  · exact h.1 i hi hb
  · have := h.2
    omega
theorem putK_all {kvs : List (Key × V)} {k : Key} {v z : V} (h : ∀ p ∈ kvs, p.2 = z) (hv : v = z) : ∀ p ∈ putK kvs k v, p.2 = z := by
  intro p hp
  unfold putK at hp
  split at hp
  · obtain ⟨q, hq, rfl⟩ := List.mem_map.mp hp
    split
    · exact hv
    · exact h q hq
  · rcases List.mem_append.mp hp with q | q
    · exact h p q
    · rw [List.mem_singleton.mp q]; exact hv
theorem valV_all {kvs : List (Key × V)} {k : Key} {u z : V} (h : ∀ p ∈ kvs, p.2 = z) (e : valV kvs k = some u) : u = z := by
  unfold valV at e
  obtain ⟨p, hp, rfl⟩ := Option.map_eq_some_iff.mp e
  exact h p (List.mem_of_find?_eq_some hp)
def okRow (m n : Nat) (row : List Int) : Bool := decide (row.length = m) && row.all fun g => decide (0 ≤ g) && decide (g < n)
theorem okRow_iff {m n : Nat} {row : List Int} : okRow m n row = true ↔ ¬ badG m n row := by
  unfold okRow badG
  rw [Bool.and_eq_true, decide_eq_true_eq, List.all_eq_true]
  constructor
  · rintro ⟨h1, h2⟩ (h | ⟨g, hg, h⟩)
    · exact h h1
    · have := h2 g hg
      rw [Bool.and_eq_true, decide_eq_true_eq, decide_eq_true_eq] at this
      exact h this
  · intro h
    refine ⟨Classical.byContradiction fun q => h (Or.inl q), fun g hg => ?_⟩
    rw [Bool.and_eq_true, decide_eq_true_eq, decide_eq_true_eq]
    exact Classical.byContradiction fun q => h (Or.inr ⟨g, hg, q⟩)
theorem int_small : ∀ n : Nat, n < 1000 → (Str.ofString (toString (n : Int))).length ≤ 3 := by decide +kernel
/-- what is due: the first wrong row, the first wrong good state, nothing -/
def DueAt (m : Nat) (gs : List (List Int)) (es : List Int) : Option Int → Prop
  | none => GoodRows m gs ∧ ∀ e ∈ es, 0 ≤ e ∧ e < (gs.length : Nat)
  | some i => (∃ j : Nat, i = j ∧ BadRow m gs j) ∨ (GoodRows m gs ∧ ∃ (j : Nat) (h : j < es.length), i = es[j] ∧ ¬ (0 ≤ es[j] ∧ es[j] < (gs.length : Nat)) ∧ ∀ k (hk : k < j), 0 ≤ es[k] ∧ es[k] < (gs.length : Nat))
theorem badRow_one {m : Nat} {gs : List (List Int)} {i j : Nat} (a : BadRow m gs i) (b : BadRow m gs j) : i = j := by
  rcases a with ⟨hi, ha, ha'⟩ | ⟨rfl, h0⟩
  · rcases b with ⟨hj, hb, hb'⟩ | ⟨rfl, h0⟩
    · rcases Nat.lt_trichotomy i j with h | h | h
      · exact absurd ha (hb' i h)
      · exact h
      · exact absurd hb (ha' j h)
    · omega
  · rcases b with ⟨hj, _, _⟩ | ⟨rfl, _⟩
    · omega
    · rfl
theorem due_none {m : Nat} {gs : List (List Int)} {es : List Int} {due : Option Int} (h : DueAt m gs es due) (g : GoodRows m gs) (ge : ∀ e ∈ es, 0 ≤ e ∧ e < (gs.length : Nat)) : due = none := by
  cases due with
  | none => rfl
  | some i =>
    rcases h with ⟨j, _, hb⟩ | ⟨_, j, hj, _, hb, _⟩
    · exact absurd hb (not_badRow g)
    · exact absurd (ge _ (List.getElem_mem hj)) hb
theorem due_row {m : Nat} {gs : List (List Int)} {es : List Int} {due : Option Int} {i : Nat} (h : DueAt m gs es due) (hb : BadRow m gs i) : due = some (i : Int) := by
  cases due with
  | none => exact absurd hb (not_badRow h.1)
  | some i' =>
    rcases h with ⟨j, rfl, hb'⟩ | ⟨g, _⟩
    · rw [badRow_one hb hb']
    · exact absurd hb (not_badRow g)
theorem due_es {m : Nat} {gs : List (List Int)} {es : List Int} {due : Option Int} (h : DueAt m gs es due) (g : GoodRows m gs) {i : Nat} (hi : i < es.length) (hb : ¬ (0 ≤ es[i] ∧ es[i] < (gs.length : Nat))) (hj : ∀ j (hj : j < i), 0 ≤ es[j] ∧ es[j] < (gs.length : Nat)) : due = some es[i] := by
  cases due with
  | none => exact absurd (h.2 _ (List.getElem_mem hi)) hb
  | some i' =>
    rcases h with ⟨j, rfl, hb'⟩ | ⟨_, j, hjl, rfl, hb', hk⟩
    · exact absurd hb' (not_badRow g)
    · have : i = j := by
        rcases Nat.lt_trichotomy i j with q | q | q
        · exact absurd (hk i q) hb
        · exact q
        · exact absurd (hj j q) hb'
      subst this
      rfl
section
variable {P : Program} {w : World} {K : PySem.W.Frag} {mg : Str → Option Value} {base : Heap}
def spRowR (K : PySem.W.Frag) : Sp := fun vs H Q _ => ∃ (r : Addr) (row : List Int) (m n : Nat), vs = [.ref r, .int m, .int n] ∧ SqL K H r (row.map V.int) ∧ row.length ≤ 100 ∧ ∀ H', Same H H' → Q (.bl (okRow m n row)) H'
abbrev s__law_row_right : Stmt := top 27
abbrev N__law_row_right : List Str := ["_law_row", "_law_many", "_law_count", "_law_goal"]
abbrev P__law_row_right : List Str := ["_law_row", "_law_many", "_law_count"]
theorem sc__law_row_right : FnScope N__law_row_right P__law_row_right (defScope s__law_row_right) := ⟨rfl, rfl, rfl, by decide +kernel, rfl, by decide +kernel, by decide +kernel⟩

theorem ok_rowR {f : Addr} {fd : FuncData} (F : Fun K "_law_row_right" "_law_row_right" s__law_row_right f fd) (T : TxtA K mg) : FnOk P w K mg base CX0 1 f fd P__law_row_right (spRowR K) := by
  refine F.ok sc__law_row_right (fun vs H Q E h => ?_) (fun cdv A outer s H vs Q E hr h => ?_)
  · obtain ⟨r, row, m, n, rfl, _⟩ := h
    rfl
  · obtain ⟨r, row, m, n, rfl, hR, hl, k⟩ := h
    have hu := hu_of hr
    refine ⟨_, (pss_one (ps_ret (pe_and (pe_cmpR op_eq (pe_callB call_len (by rfl) T.len PySem.boot_len (pa_cons (pv 0) pa_nil)) (pv 1) (nomark _)) (pe_one (pe_cmpR (op_eqD hr.units) (pe_lc (own := [("_law_goal", 3)]) (g := gName 3) (by rfl) sc__law_row_right.nd (pi_seq (K := K) rfl (pv 0)) (blkOk_by (own := [("_law_goal", 3)]) (N := N__law_row_right) (sc := defScope s__law_row_right) (by decide +kernel)) (fun _ _ _ _ _ => pg_name (i := 3) sc__law_row_right.nd rfl (Or.inl rfl)) (fun _ _ _ _ _ => (pts_one (pt_not (pt_chain op_le op_lt pe_int (pv 3) (pv 2))))) (fun _ _ _ _ _ => (pv 3))) (pe_lst pa_nil) (nomark _)))))), ?_⟩
    refine ⟨_, rfl, _, _, rfl, Or.inl ⟨_, hR, rfl⟩, _, rfl, rfl, _, rfl, ?_⟩
    have key := k
    unfold okRow at key
    by_cases c1 : row.length = m
    · rw [if_pos (decide_eq_true (by rw [List.length_map, c1]))]
      refine ⟨_, rfl, r, _, rfl, Or.inl hR, fun J hJ D hD => lc_it hJ (fun i H1 => H1 D = some (.lst (((row.take i).filter (okG n)).map V.int)) ∧ Same H H1) ⟨upd_same, same_new hD⟩ (fun i H1 _ ⟨_, s1⟩ => GSq.same s1) ?_ ?_⟩
      · rintro i x H2 H1 hi ⟨hD1, s1⟩ ⟨rfl, hx⟩
        rw [List.length_map] at hi
        obtain rfl : V.int (row[i]) = x := by
          rw [List.getElem?_map, List.getElem?_eq_getElem hi] at hx
          exact Option.some.inj hx
        refine ⟨rfl, ?_⟩
        have yes : okG n row[i] = true → ((row.take (i + 1)).filter (okG n)) = (row.take i).filter (okG n) ++ [row[i]] := fun e => by
          rw [take_more hi, List.filter_append, List.filter_cons_of_pos e]; rfl
        have no : okG n row[i] = false → ((row.take (i + 1)).filter (okG n)) = (row.take i).filter (okG n) := fun e => by
          rw [take_more hi, List.filter_append, List.filter_cons_of_neg (by rw [e]; decide), List.filter_nil, List.append_nil]
        have hlen : (((row.take i).filter (okG n)).map V.int).length < sizeLine := by
          rw [List.length_map]
          have h1 := List.length_filter_le (okG n) (row.take i)
          rw [List.length_take] at h1
          exact small1000 (by omega)
        have put : okG n row[i] = true → L2.upd H1 D (.lst (((row.take i).filter (okG n)).map V.int ++ [V.int row[i]])) D = some (.lst (((row.take (i + 1)).filter (okG n)).map V.int)) ∧ Same H (L2.upd H1 D (.lst (((row.take i).filter (okG n)).map V.int ++ [V.int row[i]]))) := fun e => ⟨by rw [upd_same, yes e, List.map_append]; rfl, s1.put hD⟩
        refine ⟨_, rfl, _, _, rfl, rfl, _, rfl, ?_⟩
        by_cases g0 : 0 ≤ row[i]
        · rw [if_pos (decide_eq_true g0)]
          refine ⟨_, rfl, _, _, rfl, rfl, _, rfl, ?_⟩
          by_cases g1 : row[i] < n
          · have e : okG n row[i] = false := by unfold okG; rw [decide_eq_true g0, decide_eq_true g1]; rfl
            refine ite2 (fun c => absurd c ?_) (fun _ => ⟨by rw [no e]; exact hD1, s1⟩)
            rw [decide_eq_true g1]; decide
          · have e : okG n row[i] = true := by unfold okG; rw [decide_eq_true g0, decide_eq_false g1]; rfl
            refine ite2 (fun _ => ⟨_, rfl, _, hD1, hlen, put e⟩) (fun c => absurd ?_ c)
            rw [decide_eq_false g1]; decide
        · rw [if_neg (by simpa using g0)]
          have e : okG n row[i] = true := by unfold okG; rw [decide_eq_false g0]; rfl
          refine ⟨_, rfl, ?_⟩
          exact ite2 (fun _ => ⟨_, rfl, _, hD1, hlen, put e⟩) (fun c => absurd rfl c)
      · rintro H1 ⟨hD1, s1⟩
        rw [List.length_map, List.take_length] at hD1
        refine ⟨by show 0 ≤ sizeLine; decide, fun E1 hE1 => ?_⟩
        have s2 : Same H1 (L2.upd H1 E1 (.lst [])) := same_new hE1
        refine ⟨intsD (row.filter (okG n)), intsD [], .lst (SqL.of (s2 _ _ hD1)) (dpAll_ints _ _ _), .lst (xs := []) (SqL.of upd_same) .nil, shaped_intsD _, shaped_intsD _, ?_⟩
        rw [eqv_intsD]
        have := key _ (s1.trans s2)
        rw [decide_eq_true c1, Bool.true_and] at this
        have e : decide (row.filter (okG n) = []) = row.all fun g => decide (0 ≤ g) && decide (g < (n : Int)) := by
          rw [Bool.eq_iff_iff, decide_eq_true_eq, List.all_eq_true, List.filter_eq_nil_iff]
          refine forall_congr' fun g => imp_congr_right fun _ => ?_
          unfold okG
          cases decide (0 ≤ g) && decide (g < (n : Int)) <;> simp
        rw [e]
        exact this
    · rw [if_neg (by rw [List.length_map, decide_eq_true_eq]; intro q; exact c1 (Int.ofNat.inj (V.int.inj q)))]
      have := key H (Same.refl H)
      rw [decide_eq_false c1, Bool.false_and] at this
      exact this
def spStrS (K : PySem.W.Frag) (C : Addr) : Sp := fun vs H Q _ => ∃ (o : Addr) (z : Str) (gs : List (List Int)) (es : List Int), vs = [.ref o] ∧ ShapeAt K C H o z gs es ∧ GoodRows z.length gs ∧ z.length ≤ 26 ∧ gs.length ≤ 100 ∧ es.length ≤ 100 ∧ ∀ (y : Str) (H' : Hp), Same H H' → Q (.str y) H'
abbrev s_Shape___str__ : Stmt := inClass (top 12) 3
abbrev N_Shape___str__ : List Str := ["self", "lines", "state", "marks", "row", "goals", "goal"]
abbrev P_Shape___str__ : List Str := ["self"]
theorem sc_Shape___str__ : FnScope N_Shape___str__ P_Shape___str__ (defScope s_Shape___str__) := ⟨rfl, rfl, rfl, by decide +kernel, rfl, by decide +kernel, by decide +kernel⟩

theorem ok_strS {f C fCG fCD B CB fB' : Addr} {fd : FuncData} (F : Fun K "__str__" "Shape.__str__" s_Shape___str__ f fd) (T : TxtS K mg C fCG fCD B CB fB') (Ts : mg "str" = none) : FnOk P w K mg base CX0 1 f fd P_Shape___str__ (spStrS K C) := by
  refine F.ok sc_Shape___str__ (fun vs H Q E h => ?_) (fun cdv A outer s H vs Q E hr h => ?_)
  · obtain ⟨o, z, gs, es, rfl, _⟩ := h
    rfl
  · obtain ⟨o, z, gs, es, rfl, ⟨dx, R, Ev, ho, hR, hE⟩, hg, hz, hl, hel, k⟩ := h
    have hu := hu_of hr
    refine ⟨_, (pss_cons (ps_set (i := 1) sc_Shape___str__.nd rfl (Or.inl rfl) (pe_lst (pa_cons (pe_joined (.cons pe_str (.cons (pe_fmt (pe_fld (pv 0) rfl)) .nil))) pa_nil)))
      (pss_cons (ps_setDc (i := 3) (own := [("state", 2)]) (g := gName 2) (by rfl) sc_Shape___str__.nd rfl rfl (sw_dc rfl rfl rfl (by decide +kernel)) (pi_seq (K := K) rfl (pe_fld (pv 0) rfl)) (blkOk_by (own := [("state", 2)]) (N := N_Shape___str__) (sc := defScope s_Shape___str__) (by decide +kernel)) (fun _ _ _ _ _ => pg_name (i := 2) sc_Shape___str__.nd rfl (Or.inl rfl)) (fun _ _ _ _ _ => pts_nil) (fun _ _ _ _ _ => pv 2) (fun _ _ _ _ _ => pe_str))
      (pss_cons (ps_for PassesOwn.never rfl (pi_enumX (by rfl) T.enumerate (pa_cons (pe_fld (pv 0) rfl) pa_nil)) (pg_tup (by rfl) (pgs_cons (pg_name (i := 2) sc_Shape___str__.nd rfl (Or.inl rfl)) (pgs_cons (pg_name (i := 4) sc_Shape___str__.nd rfl (Or.inl rfl)) pgs_nil))) (pss_cons (ps_set (i := 5) sc_Shape___str__.nd rfl (Or.inl rfl) (pe_join pe_str (pe_lc (own := [("goal", 6)]) (g := gName 6) (by rfl) sc_Shape___str__.nd (pi_seq (K := K) rfl (pv 4)) (blkOk_by (own := [("goal", 6)]) (N := N_Shape___str__) (sc := defScope s_Shape___str__) (by decide +kernel)) (fun _ _ _ _ _ => pg_name (i := 6) sc_Shape___str__.nd rfl (Or.inl rfl)) (fun _ _ _ _ _ => pts_nil) (fun _ _ _ _ _ => (pe_callTy call_str_int (by rfl) Ts boot_str (pa_cons (pv 6) pa_nil))))))
      (pss_one (ps_expr (pe_bm PySem.F.plainAttrs_list PySem.F.slot_list_append PySem.F.type_list_append mt_append (pv 1) (pa_cons (pe_op op_add_str (pv 5) (pe_dget2 (Nat.lt_of_le_of_lt (Nat.add_le_add_left (by decide) _) hr.units) (pv 3) (pv 2) pe_str ⟨rfl, rfl, rfl, rfl⟩)) pa_nil))))))
      (pss_one (ps_ret (pe_join pe_str (pv 1))))))), ?_⟩
    have hzs : z.length ≤ sizeLine := Nat.le_of_lt (small1000 (by omega))
    have hl0 : (Str.empty ++ Str.ofString "shape " ++ z).length ≤ 200 := by
      rw [Str.length_append]
      have : (Str.empty ++ Str.ofString "shape ").length = 6 := by decide +kernel
      omega
    refine ⟨_, rfl, (by decide +kernel), _, rfl, o, C, dx, _, _, rfl, ho, T.cl, T.nL, sf_letters _ _ _, Or.inl ⟨z, rfl, hzs, _, rfl, Nat.le_of_lt (small1000 (by omega)), by show 1 ≤ sizeLine; decide, fun D hD => ?_⟩⟩
    have s1 : Same H (L2.upd H D (.lst [V.str (Str.empty ++ Str.ofString "shape " ++ z)])) := same_new hD
    have hD1 : (L2.upd H D (.lst [V.str (Str.empty ++ Str.ofString "shape " ++ z)])) D = some (.lst [V.str (Str.empty ++ Str.ofString "shape " ++ z)]) := upd_same
    change tSeq _ _ _ _ (L2.upd H D (.lst [V.str (Str.empty ++ Str.ofString "shape " ++ z)]))
    generalize L2.upd H D (.lst [V.str (Str.empty ++ Str.ofString "shape " ++ z)]) = H1 at s1 hD1 ⊢
    obtain ⟨ga, ges, rfl, hE1, hE2⟩ := hE.tupE
    obtain rfl := dpAll_intsE hE2
    obtain ⟨ra, xs, rfl, hR1, hR2⟩ := hR.tupE
    have hxl : xs.length = gs.length := by rw [hR2.length, List.length_map]
    refine ⟨_, rfl, o, C, dx, _, _, rfl, s1 _ _ ho, T.cl, T.nG, sf_good _ _ _, ga, _, rfl, Or.inr ((Kl.same s1).seqT hE1), fun J hJ M hM => dc_it hJ (fun i H2 => ∃ kvs : List (Key × V), H2 M = some (.dK kvs) ∧ kvs.length ≤ i ∧ (∀ p ∈ kvs, p.2 = V.str " good") ∧ Same H1 H2)
      ⟨[], upd_same, Nat.le_refl _, (fun p hp => nomatch hp), same_new hM⟩ (fun i H2 _ ⟨_, _, _, _, s2⟩ => GSq.same s2) ?_ ?_⟩
    · rintro i x H2' H2 hi ⟨kvs, hM2, hk, hv, s2⟩ ⟨rfl, hx⟩
      rw [List.length_map] at hi
      obtain rfl : V.int (es[i]) = x := by
        rw [List.getElem?_map, List.getElem?_eq_getElem hi] at hx
        exact Option.some.inj hx
      refine ⟨rfl, ?_⟩
      refine lcYes ?_
      refine ⟨_, rfl, kvs, .inl es[i], rfl, hM2, small1000 (by omega), _, upd_same, ?_, ?_, s2.put hM⟩
      · have := length_putK kvs (Sum.inl es[i] : Key) (V.str " good")
        omega
      · exact putK_all hv rfl
    · rintro H2 ⟨kvs, hM2, hk, hv, s2⟩
      have s3 := s1.trans s2
      have nMD : M ≠ D := (ne_of_none hD1 hM).symm
      have hM0 : H M = none := s1.free hM
      refine ⟨_, rfl, o, C, dx, _, _, rfl, s3 _ _ ho, T.cl, T.nR, sf_rows _ _ _, ra, xs, rfl, Or.inr ((Kl.same s3).seqT hR1), fun J2 hJ2 => for_it hJ2 (fun i σ H3 => ∃ (v2 v4 v5 v6 : Option V) (ls : List Str), σ = [some (.ref o), some (.ref D), v2, some (.ref M), v4, v5, v6] ∧ H3 D = some (.lst (ls.map V.str)) ∧ ls.length ≤ i + 1 ∧ (∀ y ∈ ls, y.length ≤ 200) ∧ H3 M = some (.dK kvs) ∧ Same H H3 ∧ ∀ b u, H2 b = some u → b ≠ D → H3 b = some u)
        ⟨none, none, none, none, [_], rfl, s2 _ _ hD1, Nat.le_refl _, (fun y hy => by rw [List.mem_singleton.mp hy]; exact hl0), hM2, s3, fun b u e _ => e⟩ (fun i σ H3 _ ⟨_, _, _, _, _, _, _, _, _, _, s4, s4'⟩ => ⟨fun h => ?_, fun _ => (Kl.same s4).seqT hR1⟩) ?_ ?_⟩
      · rcases h with (h | ⟨o', h⟩) | h
        · refine Or.inl (Or.inl (s4' _ _ h fun q => ?_))
          rw [q, s2 _ _ hD1] at h
          cases h
          obtain ⟨v, hv', hrow⟩ := hR2.get (i := 0) (d := intsT (gs[0]'hg.2)) (by rw [List.getElem?_map, List.getElem?_eq_getElem hg.2]; rfl)
          obtain ⟨w5, ts, rfl, _, _⟩ := hrow.tupE
          cases hv'
        · refine Or.inl (Or.inr ⟨o', s4' _ _ h fun q => ?_⟩)
          rw [q, s2 _ _ hD1] at h
          cases h
        · exact Or.inr h
      · rintro i x σ H3 H4 hi ⟨v2, v4, v5, v6, ls, rfl, hD3, hll, hly, hM3, s4, s4'⟩ ⟨q, b, rfl, hq, rfl, hb⟩
        have hi' : i < gs.length := by omega
        obtain ⟨v, hv', hrow⟩ := hR2.get (i := i) (d := intsT gs[i]) (by rw [List.getElem?_map, List.getElem?_eq_getElem hi']; rfl)
        obtain rfl : b = v := Option.some.inj (hb.symm.trans hv')
        obtain ⟨w5, ts, rfl, hw1, hw2⟩ := hrow.tupE
        obtain rfl := dpAll_intsE hw2
        obtain ⟨grl, grg⟩ := good_row hg hi'
        have s5 : Same H (L2.upd H3 q (.tup [.int i, .ref w5])) := s4.trans (same_new hq)
        have s5' : Same H3 (L2.upd H3 q (.tup [.int i, .ref w5])) := same_new hq
        have hD5 := (same_new (o := .tup [.int i, .ref w5]) hq) _ _ hD3
        have hM5 := (same_new (o := .tup [.int i, .ref w5]) hq) _ _ hM3
        refine ⟨q, _, rfl, SqT.of upd_same, rfl, _, _, rfl, _, _, rfl, rfl, ?_⟩
        generalize L2.upd H3 q (.tup [.int i, .ref w5]) = H5 at s5 s5' hD5 hM5
        refine ⟨⟨_, rfl⟩, _, rfl, w5, _, rfl, Or.inr ((Kl.same s5).seqT hw1), fun J3 hJ3 E3 hE3 => lc_it hJ3 (fun j H6 => ∃ zs : List Str, H6 E3 = some (.lst (zs.map V.str)) ∧ zs.length ≤ j ∧ (∀ y ∈ zs, y.length ≤ 3) ∧ Same H5 H6)
          ⟨[], upd_same, Nat.le_refl _, (fun y hy => nomatch hy), same_new hE3⟩ (fun j H6 _ ⟨_, _, _, _, s6⟩ => GSq.same s6) ?_ ?_⟩
        · rintro j x H6' H6 hj ⟨zs, hE6, hzl, hzy, s6⟩ ⟨rfl, hx⟩
          rw [List.length_map] at hj
          obtain rfl : V.int (gs[i][j]) = x := by
            rw [List.getElem?_map, List.getElem?_eq_getElem hj] at hx
            exact Option.some.inj hx
          obtain ⟨g0, g1⟩ := grg _ (List.getElem_mem hj)
          refine ⟨rfl, ?_⟩
          refine lcYes ?_
          obtain ⟨n, hn⟩ : ∃ n : Nat, gs[i][j] = (n : Int) := ⟨gs[i][j].toNat, by omega⟩
          refine ⟨_, rfl, _, rfl, ?_, _, hE6, ?_, zs ++ [Str.ofString (toString gs[i][j])], ?_, ?_, ?_, s6.put hE3⟩
          · rw [hn, Int.natAbs_natCast]
            exact Nat.lt_of_le_of_lt (Nat.log2_le_self n) (by omega)
          · rw [List.length_map]; exact small1000 (by omega)
          · rw [upd_same, List.map_append]; rfl
          · rw [List.length_append, List.length_singleton]; omega
          · intro y hy
            rcases List.mem_append.mp hy with h | h
            · exact hzy y h
            · rw [List.mem_singleton.mp h, hn]
              exact int_small n (by omega)
        · rintro H6 ⟨zs, hE6, hzl, hzy, s6⟩
          rw [List.length_map, grl] at hzl
          have hsum := sum_le hzy
          have hjl := join_le (sep := " ") hzy
          have e1 : (" " : Str).length = 1 := by decide +kernel
          rw [e1] at hjl
          refine ⟨_, E3, zs, rfl, rfl, Or.inl (SqL.of hE6), by rw [e1]; omega, ?_⟩
          have hD6 := s6 _ _ hD5
          have hM6 := s6 _ _ hM5
          have s7 := s5.trans s6
          obtain ⟨y, hy, hyl⟩ : ∃ y : Str, (valV kvs (Sum.inl (i : Int) : Key)).getD (.str "") = .str y ∧ y.length ≤ 5 := by
            cases hvv : valV kvs (Sum.inl (i : Int) : Key) with
            | none => exact ⟨"", rfl, by decide +kernel⟩
            | some u => exact ⟨" good", by rw [Option.getD_some]; exact valV_all hv hvv, by decide +kernel⟩
          refine ⟨_, rfl, Or.inl ⟨rfl, _, SqL.of hD6⟩, _, rfl, _, rfl, M, rfl, Or.inl ⟨_, Or.inl hM6⟩, _, rfl, _, DGet.k (k := Sum.inl (i : Int)) hM6, ?_⟩
          · rw [hy]
            refine ⟨_, _, rfl, rfl, ?_, ?_⟩
            · show (Txt.join " " zs).length + y.length ≤ sizeLine
              exact Nat.le_of_lt (small1000 (by omega))
            · refine ⟨D, _, _, rfl, rfl, hD6, by rw [List.length_map]; exact small1000 (by omega), _, _, _, _, ls ++ [_], rfl, by rw [upd_same, List.map_append]; rfl, ?_, ?_, ?_, s7.put hD, fun b u e n => by rw [upd_ne n]; exact s6 _ _ (s5' _ _ (s4' b u e n))⟩
              · rw [List.length_append, List.length_singleton]; omega
              · intro y' hy'
                rcases List.mem_append.mp hy' with h | h
                · exact hly y' h
                · rw [List.mem_singleton.mp h, Str.length_append]
                  omega
              · rw [upd_ne nMD]; exact hM6
      · rintro σ H3 ⟨v2, v4, v5, v6, ls, rfl, hD3, hll, hly, hM3, s4, s4'⟩
        have hsum := sum_le hly
        have e1 : ("\n" : Str).length = 1 := by decide +kernel
        refine ⟨⟨_, rfl⟩, _, rfl, _, D, ls, rfl, rfl, Or.inl (SqL.of hD3), ?_, k _ _ s4⟩
        rw [e1]
        omega
/-- a shape asked against a tuple or a text -/
def spEqO (K : PySem.W.Frag) (C : Addr) : Sp := fun vs H Q _ => ∃ (o : Addr) (z : Str) (gs : List (List Int)) (es : List Int) (v : V), vs = [.ref o, v] ∧ ShapeAt K C H o z gs es ∧ ((∃ y, v = .str y) ∨ ∃ t xs, v = .ref t ∧ H t = some (.tup xs)) ∧ ∀ H', Same H H' → Q (.bl false) H'
theorem ok_eqO {f C fCG fCD B CB fB' fSP fSt fEq fLn : Addr} {fd : FuncData} (F : Fun K "__eq__" "Shape.__eq__" s_Shape___eq__ f fd) (T : TxtSM K mg C fCG fCD B CB fB' fSP fSt fEq fLn) (kt : PySem.W.kitOne K (.type "tuple") (.ref C) = some false) (ks : PySem.W.kitOne K (.type "str") (.ref C) = some false) : FnOk P w K mg base CX0 1 f fd P_Shape___eq__ (spEqO K C) := by
  refine F.ok sc_Shape___eq__ (fun vs H Q E h => ?_) (fun cdv A outer s H vs Q E hr h => ?_)
  · obtain ⟨o, z, gs, es, v, rfl, _⟩ := h
    rfl
  · obtain ⟨o, z, gs, es, v, rfl, hS, hv, k⟩ := h
    refine ⟨_, (pss_one (ps_ret (pe_and (pe_callB call_isi (by rfl) T.isinstance boot_isinstance (pa_cons (pv 1) (pa_cons (pe_glob (by rfl) T.mgShape (v := .ref C) rfl) pa_nil))) (pe_and (pe_cmpR op_eq (pe_fld (pv 0) rfl) (pe_fld (pv 1) rfl) (nomark _)) (pe_and (pe_cmpR (op_eqD hr.units) (pe_fld (pv 0) rfl) (pe_fld (pv 1) rfl) (nomark _)) (pe_one (pe_cmpR (op_eqD hr.units) (pe_fld (pv 0) rfl) (pe_fld (pv 1) rfl) (nomark _)))))))), ?_⟩
    rcases hv with ⟨y, rfl⟩ | ⟨t, xs, rfl, ht⟩
    · refine ⟨_, rfl, _, _, _, _, _, rfl, .own C, .base (.str y), ks, false, rfl, ?_⟩
      rw [if_neg (by decide)]
      exact k H (Same.refl H)
    · refine ⟨_, rfl, _, _, _, _, _, rfl, .own C, .base (.tup ht), kt, false, rfl, ?_⟩
      rw [if_neg (by decide)]
      exact k H (Same.refl H)
structure TxtRf (K : PySem.W.Frag) (mg : Str → Option Value) (CB CE CU : Addr) : Prop where
  gE : mg "CodeError" = some (.ref CE)
  gU : mg "Unlike" = some (.ref CU)
  isinstance : mg "isinstance" = none
  te : PySem.W.exmOne K (.ref CB) (.ref CB) = some true
  cB : ExcC K CB
  kE : PySem.W.kitOne K (.ref CB) (.ref CE) = some true
  kU : PySem.W.kitOne K (.ref CB) (.ref CU) = some false
def spRefS (K : PySem.W.Frag) : Sp := fun vs H Q _ => ∃ (z : Str) (R : V) (g : Addr) (gs : List (List Int)) (es : List Int) (due : Option Int), vs = [.str z, R, .ref g] ∧ RwsI K H R gs ∧ SqL K H g (es.map V.int) ∧ z.length ≤ 26 ∧ gs.length ≤ 100 ∧ es.length < 64 ∧ (∀ r ∈ gs, r.length ≤ 100) ∧ DueAt z.length gs es due ∧
  (due = none → ∀ H', Same H H' → Q .non H') ∧ (∀ i, due = some i → ∀ t H', Same H H' → H' t = some (.tup [.int i, .bl true, .bl false]) → Q (.ref t) H')
abbrev s__law_refused : Stmt := top 25
abbrev N__law_refused : List Str := ["_law_values", "_law_rows", "_law_good", "e"]
abbrev P__law_refused : List Str := ["_law_values", "_law_rows", "_law_good"]
theorem sc__law_refused : FnScope N__law_refused P__law_refused (defScope s__law_refused) := ⟨rfl, rfl, rfl, by decide +kernel, rfl, by decide +kernel, by decide +kernel⟩

theorem ok_refS {f fI C fCG fCD B CB fB' CE CU : Addr} {fd fdI fdCG fdCD fdB : FuncData} (F : Fun K "_law_refused" "_law_refused" s__law_refused f fd) (T : TxtS K mg C fCG fCD B CB fB') (T2 : TxtRf K mg CB CE CU)
    (MShape : Mk K C fI) (FI : Fun K "__init__" "Shape.__init__" s_Shape___init__ fI fdI) (bShape : Binds K fdI P_Shape___init__ []) (FCG : Fun K "check_goals" "check_goals" s_check_goals fCG fdCG) (bCG : Binds K fdCG P_check_goals [])
    (FCD : Fun K "check_good" "check_good" s_check_good fCD fdCD) (bCD : Binds K fdCD P_check_good []) (FB' : Fun K "__init__" "BadCode.__init__" s_BadCode___init__ fB' fdB) (bB' : Binds K fdB P_BadCode___init__ []) : FnOk P w K mg base CX0 6 f fd P__law_refused (spRefS K) := by
  have GShape : FnOk P w K mg base (L2.CX P w) 4 fI fdI P_Shape___init__ (spInitS K C CB) := ok_initS FI T FCG bCG FCD bCD FB' bB'
  refine F.ok sc__law_refused (fun vs H Q E h => ?_) (fun cdv A outer s H vs Q E hr h => ?_)
  · obtain ⟨z, R, g, gs, es, due, rfl, _⟩ := h
    rfl
  · obtain ⟨z, R, g, gs, es, due, rfl, hR, hg, hz, hl, hel, hrl, hdue, kq, ke⟩ := h
    refine ⟨_, pss_cons (ps_try_as (i := 3) (tb := fun W => tDrop (tMakeV C (spInitS K C CB) [] (WE W) (tCons (tVar 0) (tCons (tVar 1) (tCons (tVar 2) tNil))))) (ts := fun a cls d => tRet (tTup (tCons (tXf a cls d CB "state" (tVar 3)) (tCons (tCB (rIsX K a cls d) (tCons (tVar 3) (tCons (tC (.ref CE)) tNil))) (tCons (tCB (rIsX K a cls d) (tCons (tVar 3) (tCons (tC (.ref CU)) tNil))) tNil))))) (Wout := fun _ _ _ _ => False) rfl rfl sc__law_refused.nd rfl rfl ⟨rfl, by decide, Or.inl T.bc.g⟩ takes0
        (fun W pn xe tk _ => pss_one (ps_expr (by exact (pe_makeV MShape GShape (hr.mono (by decide)) (by rfl) T.mgShape bShape .nil (fun σ => passAt tk σ) (by exact (pa_cons (pv 0) (pa_cons (pv 1) (pa_cons (pv 2) pa_nil))))))))
        (fun a oe cls d pn hz hf => pss_one (ps_ret (by exact (pe_tup (pa_cons (pe_xf T.bc.xf T.bc.nf hz hf (pv 3)) (pa_cons (pe_callB (call_isX hz hf) (by rfl) T2.isinstance boot_isinstance (pa_cons (pv 3) (pa_cons (pe_glob (by rfl) T2.gE (v := .ref CE) rfl) pa_nil))) (pa_cons (pe_callB (call_isX hz hf) (by rfl) T2.isinstance boot_isinstance (pa_cons (pv 3) (pa_cons (pe_glob (by rfl) T2.gU (v := .ref CU) rfl) pa_nil))) pa_nil))))))))
      (pss_one (ps_ret pe_non)), ?_⟩
    refine ⟨_, rfl, _, rfl, _, rfl, fun x dx hx hdx ne => ?_⟩
    have hx' : (L2.upd H dx (.own x)) x = none := by rw [upd_ne ne.symm]; exact hx
    have s0 : Same H (L2.upd (L2.upd H dx (.own x)) x (.ins C dx [])) := (same_new hdx).trans (same_new hx')
    have fin : ∀ i, due = some i → ∀ d H', Raised (L2.upd (L2.upd H dx (.own x)) x (.ins C dx [])) H' d "state" (.int i) → ∀ t, H' t = none → Same H' (L2.upd H' t (.tup [.int i, .bl true, .bl false])) → Q (.ref t) (L2.upd H' t (.tup [.int i, .bl true, .bl false])) := fun i hi d H' hd t ht s => ke i hi t _ ((s0.trans hd.2.2).trans s) upd_same
    refine ⟨x, dx, z, R, g, gs, es, rfl, upd_same, hR.mv (Kl.same s0), (Kl.same s0).seq hg, hz, hl, hel, hrl, fun hok hgood H' es' hu hm hSh hk => ⟨rfl, ?_⟩, fun i hb d H' hd => ?_, fun hok i hi hb hj d H' hd => ?_⟩
    · exact kq (due_none hdue hok hgood) H' fun b u e => hk b u (s0 _ _ e) (ne_of_none e hx)
    · refine ⟨true, T2.te, fun _ a0 _ => ?_, fun q => Bool.noConfusion q⟩
      have hi := due_row hdue hb
      exact ⟨_, rfl, rfl, rfl, d, _, _, rfl, hd.2.1, by simp [List.lookup], _, rfl, CB, _, .ref CE, true, rfl, T2.cB, Or.inr ⟨d, _, rfl, hd.2.1⟩, rfl, fun u hu => hu, T2.kE, _, rfl, CB, _, .ref CU, false, rfl, T2.cB, Or.inr ⟨d, _, rfl, hd.2.1⟩, rfl, fun u hu => hu, T2.kU, by show 3 ≤ sizeLine; decide, fun t ht => fin _ hi d H' hd t ht (same_new ht)⟩
    · refine ⟨true, T2.te, fun _ a0 _ => ?_, fun q => Bool.noConfusion q⟩
      have hi := due_es hdue hok hi hb hj
      exact ⟨_, rfl, rfl, rfl, d, _, _, rfl, hd.2.1, by simp [List.lookup], _, rfl, CB, _, .ref CE, true, rfl, T2.cB, Or.inr ⟨d, _, rfl, hd.2.1⟩, rfl, fun u hu => hu, T2.kE, _, rfl, CB, _, .ref CU, false, rfl, T2.cB, Or.inr ⟨d, _, rfl, hd.2.1⟩, rfl, fun u hu => hu, T2.kU, by show 3 ≤ sizeLine; decide, fun t ht => fin _ hi d H' hd t ht (same_new ht)⟩
end
end Vf
set_option Elab.async false
set_option linter.all false
set_option maxRecDepth 100000
set_option maxHeartbeats 4000000
namespace Vf
open PySem L2 PyProof.Rows
/-- a list of new lists of numbers -/
def RowsM (H : Hp) (D : Addr) (gs : List (List Int)) : Prop := ∃ rs : List Addr, H D = some (.lst (rs.map V.ref)) ∧ Forall2 (fun (r : Addr) (row : List Int) => H r = some (.lst (row.map V.int))) rs gs ∧ ∀ r ∈ rs, r ≠ D
theorem RowsM.same {H H' : Hp} {D : Addr} {gs : List (List Int)} (c : RowsM H D gs) (s : Same H H') : RowsM H' D gs := by
  obtain ⟨rs, h1, h2, h3⟩ := c
  exact ⟨rs, s _ _ h1, h2.imp fun x y _ h => s _ _ h, h3⟩
theorem RowsM.kp {H H' : Hp} {D p : Addr} {gs : List (List Int)} {kvs : List (Key × V)} (c : RowsM H D gs) (k : Kp p H H') (hp : H p = some (.dK kvs)) : RowsM H' D gs := by
  obtain ⟨rs, h1, h2, h3⟩ := c
  exact ⟨rs, k _ _ h1 (L2.ne_of h1 hp (by intro z; cases z)), h2.imp fun x y _ h => k _ _ h (L2.ne_of h hp (by intro z; cases z)), h3⟩
theorem RowsM.dp {K : PySem.W.Frag} {H : Hp} {D : Addr} {gs : List (List Int)} (c : RowsM H D gs) : Dp K H (.ref D) (rowsID gs) := by
  obtain ⟨rs, h1, h2, h3⟩ := c
  exact Dp.lst (SqL.of h1) (dpAll_gs h2.1 fun i r row e1 e2 => h2.2 i r row e1 e2)
theorem forall2_set {α β : Type} {R : α → β → Prop} {as : List α} {bs : List β} (h : Forall2 R as bs) (i : Nat) {a : α} {b : β} (hr : R a b) : Forall2 R (as.set i a) (bs.set i b) := by
  refine ⟨by rw [List.length_set, List.length_set]; exact h.1, fun j x y e1 e2 => ?_⟩
  by_cases e : i = j
  · subst e
    rw [List.getElem?_set_self' ] at e1 e2
    cases q1 : as[i]? with
    | none => rw [q1] at e1; cases e1
    | some _ =>
      cases q2 : bs[i]? with
      | none => rw [q2] at e2; cases e2
      | some _ =>
        rw [q1] at e1; rw [q2] at e2
        cases e1; cases e2
        exact hr
  · rw [List.getElem?_set_ne e] at e1 e2
    exact h.2 j x y e1 e2
/-- one row in another's place -/
theorem RowsM.put {H : Hp} {D A : Addr} {gs : List (List Int)} {row : List Int} (i : Nat) {rs : List Addr} (h1 : H D = some (.lst (rs.map V.ref))) (h2 : Forall2 (fun (r : Addr) (row : List Int) => H r = some (.lst (row.map V.int))) rs gs) (h3 : ∀ r ∈ rs, r ≠ D) (hA : H A = some (.lst (row.map V.int))) (n : A ≠ D) :
    RowsM (L2.upd H D (.lst ((rs.map V.ref).set i (.ref A)))) D (gs.set i row) := by
  refine ⟨rs.set i A, by rw [upd_same, List.map_set], forall2_set ?_ i (by rw [upd_ne n]; exact hA), fun r hr => ?_⟩
  · refine ⟨h2.1, fun j x y e1 e2 => ?_⟩
    show L2.upd H D _ x = _
    rw [upd_ne (h3 x (List.mem_of_getElem? e1))]
    exact h2.2 j x y e1 e2
  · rcases List.mem_or_eq_of_mem_set hr with h | h
    · exact h3 r h
    · rw [h]; exact n
theorem cutI (es : List Int) (lo hi : Option Int) : ∃ es' : List Int, cutV (es.map V.int) lo hi = es'.map V.int ∧ es'.length ≤ es.length := by
  refine ⟨(es.drop (HT.sIx (es.map V.int).length 0 lo)).take (HT.sIx (es.map V.int).length (es.map V.int).length hi - HT.sIx (es.map V.int).length 0 lo), ?_, ?_⟩
  · unfold cutV
    rw [List.map_take, List.map_drop]
  · rw [List.length_take, List.length_drop]; omega
theorem gsq_lst {K : PySem.W.Frag} {H1 H : Hp} {a : Addr} {xs : List V} (h1 : H1 a = some (.lst xs)) (h : H a = some (.lst xs)) : GSq K H1 a xs H := by
  refine ⟨fun _ => SqL.of h, fun q => ?_⟩
  rcases q with (q | ⟨o, q⟩) | q
  · rw [h1] at q; cases q
  · rw [h1] at q; cases q
  · exact Or.inr q
theorem ixN_nat {n i : Nat} (h : i < n) : ixN n (i : Int) = some i := by
  unfold ixN
  rw [if_pos (by omega), if_pos (by omega)]; simp
theorem cutV_toN {xs : List V} {j : Nat} : cutV xs none (some (j : Int)) = xs.take j := by
  unfold cutV
  rw [HT.sIx_none, HT.sIx_nat, List.drop_zero, Nat.sub_zero]
  by_cases h : j ≤ xs.length
  · rw [Nat.min_eq_left h]
  · rw [Nat.min_eq_right (by omega), List.take_of_length_le (Nat.le_refl _), List.take_of_length_le (by omega)]
theorem cutV_fromN {xs : List V} {j : Nat} : cutV xs (some (j : Int)) none = xs.drop j := by
  unfold cutV
  rw [HT.sIx_none, HT.sIx_nat]
  by_cases h : j ≤ xs.length
  · rw [Nat.min_eq_left h]; exact List.take_of_length_le (by rw [List.length_drop]; exact Nat.le_refl _)
  · rw [Nat.min_eq_right (by omega), List.drop_of_length_le (Nat.le_refl _), List.drop_of_length_le (by omega), List.take_nil]
theorem and_rest {p : Prop} [Decidable p] {B T' E' : Prop} (e : E') (h : p → E' → B) : if p then B else (if false = true then T' else E') := by
  by_cases hp : p
  · rw [if_pos hp]; exact h hp e
  · rw [if_neg hp, if_neg (by decide)]; exact e
def wrongRows (m : Nat) (gs : List (List Int)) : List Int := ((List.range gs.length).filter fun j => !okRow m gs.length (gs.getD j [])).map Int.ofNat
theorem due_at {m : Nat} {gs : List (List Int)} {es : List Int} (h0 : 0 < gs.length) : DueAt m gs es (wrongRows m gs ++ es.filter (okG gs.length)).head? := by
  have okG_iff : ∀ e : Int, okG gs.length e = true ↔ ¬ (0 ≤ e ∧ e < (gs.length : Nat)) := fun e => by
    unfold okG
    rw [Bool.not_eq_true', ← Bool.not_eq_true, Bool.and_eq_true, decide_eq_true_eq, decide_eq_true_eq]
  have hget : ∀ (j : Nat) (hj : j < gs.length), gs.getD j [] = gs[j] := fun j hj => by rw [List.getD_eq_getElem?_getD, List.getElem?_eq_getElem hj, Option.getD_some]
  cases hw : wrongRows m gs with
  | cons a l =>
    rw [List.cons_append, List.head?_cons]
    have hh : (wrongRows m gs).head? = some a := by rw [hw]; rfl
    unfold wrongRows at hh
    rw [List.head?_map, List.head?_filter] at hh
    obtain ⟨j, hj, rfl⟩ := Option.map_eq_some_iff.mp hh
    obtain ⟨hp, hjl, hlt⟩ := List.find?_range_eq_some.mp hj
    have hjl : j < gs.length := List.mem_range.mp hjl
    refine Or.inl ⟨j, rfl, Or.inl ⟨hjl, ?_, fun k hk => ?_⟩⟩
    · rw [hget j hjl, Bool.not_eq_true', ← Bool.not_eq_true] at hp
      exact Classical.byContradiction fun q => hp (okRow_iff.mpr q)
    · have := hlt k hk
      rw [hget k (by omega), Bool.not_not] at this
      exact okRow_iff.mp this
  | nil =>
    rw [List.nil_append]
    have hg : GoodRows m gs := ⟨fun j hj => by
      unfold wrongRows at hw
      rw [List.map_eq_nil_iff, List.filter_eq_nil_iff] at hw
      have := hw j (List.mem_range.mpr hj)
      rw [hget j hj, Bool.not_eq_true, Bool.not_eq_false'] at this
      exact okRow_iff.mp this, h0⟩
    rw [List.head?_filter]
    cases hf : es.find? (okG gs.length) with
    | none =>
      refine ⟨hg, fun e he => ?_⟩
      have := List.find?_eq_none.mp hf e he
      exact Classical.byContradiction fun q => this ((okG_iff e).mpr q)
    | some e =>
      obtain ⟨hp, j, hj, rfl, hlt⟩ := List.find?_eq_some_iff_getElem.mp hf
      refine Or.inr ⟨hg, j, hj, rfl, (okG_iff _).mp hp, fun k hk => ?_⟩
      have := hlt k hk
      rw [Bool.not_eq_true', ← Bool.not_eq_true] at this
      exact Classical.byContradiction fun q => this ((okG_iff _).mpr q)
def dueV : Option Int → V
  | none => .non
  | some i => .int i
section
variable {P : Program} {w : World} {K : PySem.W.Frag} {mg : Str → Option Value} {base : Heap}
def spBentS (K : PySem.W.Frag) : Sp := fun vs H Q _ => ∃ (p c t : Addr) (z : Str) (gs : List (List Int)) (es : List Int) (n : Nat), vs = [.ref p, .ref t] ∧ Pen H p c n ∧ n ≤ 2 ^ 29 ∧ ShD H t z gs es ∧ 0 < gs.length ∧ gs.length ≤ 8 ∧ 1 ≤ z.length ∧ z.length ≤ 3 ∧ es.length ≤ 20 ∧ (∀ r ∈ gs, r.length ≤ 3) ∧
  ∀ (T R G : Addr) (gs' : List (List Int)) (es' : List Int) (due : Option Int) (H' : Hp), H' T = some (.tup [.ref R, .ref G, dueV due]) → Dp K H' (.ref R) (rowsID gs') → H' G = some (.lst (es'.map V.int)) → gs'.length = gs.length → (∀ r ∈ gs', r.length ≤ 10) → es'.length ≤ 30 → DueAt z.length gs' es' due → Pen H' p c (n + 50) → Kp p H H' → Q (.ref T) H'
structure TxtBe (K : PySem.W.Frag) (mg : Str → Option Value) (fD fP fR : Addr) : Prop extends TxtP K mg fD fP where
  m_law_row_right : mg "_law_row_right" = some (.ref fR)
  k_law_row_right : PySem.W.keepIn K (.ref fR) = true
abbrev s__law_bent : Stmt := top 26
abbrev N__law_bent : List Str := ["_law_pen_here", "_law_shape_here", "_law_row", "_law_count", "_law_rows", "_law_wrong", "_law_state", "_law_at", "_law_way", "_law_good", "_law_strange", "_law_due", "_law_k"]
abbrev P__law_bent : List Str := ["_law_pen_here", "_law_shape_here"]
theorem sc__law_bent : FnScope N__law_bent P__law_bent (defScope s__law_bent) := ⟨rfl, rfl, rfl, by decide +kernel, rfl, by decide +kernel, by decide +kernel⟩

theorem ok_bentS {f fD fP fR : Addr} {fd fdD fdP fdR : FuncData} (F : Fun K "_law_bent" "_law_bent" s__law_bent f fd) (T : TxtBe K mg fD fP fR) (FD : Fun K "_law_draw" "_law_draw" s__law_draw fD fdD) (b_law_draw : Binds K fdD P__law_draw [])
    (FP : Fun K "_law_pick" "_law_pick" s__law_pick fP fdP) (b_law_pick : Binds K fdP P__law_pick []) (FR : Fun K "_law_row_right" "_law_row_right" s__law_row_right fR fdR) (b_law_row_right : Binds K fdR P__law_row_right []) : FnOk P w K mg base CX0 3 f fd P__law_bent (spBentS K) := by
  have G_law_draw : FnOk P w K mg base CX0 1 fD fdD P__law_draw spDraw := ok_draw FD T.toTxtA
  have G_law_pick : FnOk P w K mg base CX0 2 fP fdP P__law_pick (spPickL K) := ok_pickL FP T.toTxtD FD b_law_draw
  have G_law_row_right : FnOk P w K mg base CX0 1 fR fdR P__law_row_right (spRowR K) := ok_rowR FR T.toTxtA
  refine F.ok sc__law_bent (fun vs H Q E h => ?_) (fun cdv A outer s H vs Q E hr h => ?_)
  · obtain ⟨p, c, t, z, gs, es, n, rfl, _⟩ := h
    rfl
  · obtain ⟨p, c, t, z, gs, es, n, rfl, hp, hn, hS, hg0, hg8, hz1, hz3, hel, hrl, k⟩ := h
    have hu := hu_of hr
    refine ⟨_, (pss_cons (ps_asg (pe_tup (pa_cons (pe_callB call_len (by rfl) T.len PySem.boot_len (pa_cons (pe_ix ix_tup (pv 1) pe_int (fun _ _ => rfl)) pa_nil)) (pa_cons (pe_lc (own := [("_law_row", 2)]) (g := gName 2) (by rfl) sc__law_bent.nd (pi_seq (K := K) rfl (pe_ix ix_tup (pv 1) pe_int (fun _ _ => rfl))) (blkOk_by (own := [("_law_row", 2)]) (N := N__law_bent) (sc := defScope s__law_bent) (by decide +kernel)) (fun _ _ _ _ _ => pg_name (i := 2) sc__law_bent.nd rfl (Or.inl rfl)) (fun _ _ _ _ _ => pts_nil) (fun _ _ _ _ _ => (pe_callTy (call_listK (K := K) rfl) (by rfl) T.list boot_list (pa_cons (pv 2) pa_nil)))) pa_nil))) (pg_tup (by rfl) (pgs_cons (pg_name (i := 3) sc__law_bent.nd rfl (Or.inr rfl)) (pgs_cons (pg_name (i := 4) sc__law_bent.nd rfl (Or.inr rfl)) pgs_nil))))
      (pss_cons (ps_setLc (i := 5) (own := [("_law_k", 12)]) (g := gName 12) (by rfl) sc__law_bent.nd rfl rfl (sw_true rfl rfl rfl (by decide +kernel)) (pi_range1 (by rfl) T.range (pa_cons (pe_call G_law_draw (hr.mono (by decide)) (by rfl) T.m_law_draw T.k_law_draw b_law_draw .nil pass0 (pa_cons (pv 0) (pa_cons pe_int pa_nil))) pa_nil)) (blkOk_by (own := [("_law_k", 12)]) (N := N__law_bent) (sc := defScope s__law_bent) (by decide +kernel)) (fun _ _ _ _ _ => pg_name (i := 12) sc__law_bent.nd rfl (Or.inl rfl)) (fun _ _ _ _ _ => pts_nil) (fun _ _ _ _ _ => (pe_call G_law_draw (hr.mono (by decide)) (by rfl) T.m_law_draw T.k_law_draw b_law_draw .nil pass0 (pa_cons (pv 0) (pa_cons (pv 3) pa_nil)))))
      (pss_cons (ps_for PassesOwn.never rfl (pi_seq (K := K) rfl (pv 5)) (pg_name (i := 6) sc__law_bent.nd rfl (Or.inl rfl)) (pss_cons (ps_par3 (i := 7) (j := 8) (l := 2) rfl sc__law_bent.nd rfl rfl rfl (by decide) (by decide) (by decide) rfl rfl rfl (pa_cons (pe_call G_law_draw (hr.mono (by decide)) (by rfl) T.m_law_draw T.k_law_draw b_law_draw .nil pass0 (pa_cons (pv 0) (pa_cons (pe_callB call_len (by rfl) T.len PySem.boot_len (pa_cons (pe_ix ix_tup (pv 1) pe_int (fun _ _ => rfl)) pa_nil)) pa_nil))) (pa_cons (pe_call G_law_draw (hr.mono (by decide)) (by rfl) T.m_law_draw T.k_law_draw b_law_draw .nil pass0 (pa_cons (pv 0) (pa_cons pe_int pa_nil))) (pa_cons (pe_ix ix_list (pv 4) (pv 6) (fun _ _ => rfl)) pa_nil))) (by rfl))
      (pss_one (ps_if (pt_cmpR op_eq (pv 8) pe_int (nomark _)) (pss_one (ps_asg (pe_op op_cat (pv 2) (pe_lst (pa_cons pe_int pa_nil))) (pg_sub (pv 4) (pv 6) set_list))) (pss_one (ps_if (PW.pt (pw_and (pt_cmpR op_eq (pv 8) pe_int (nomark _)) (pw_and1 (pt_cmpR op_gt (pe_callB call_len (by rfl) T.len PySem.boot_len (pa_cons (pv 2) pa_nil)) pe_int (nomark _))))) (pss_one (ps_asg (pe_ifExp (pt_cmpR op_ne (pe_callB call_len (by rfl) T.len PySem.boot_len (pa_cons (pv 2) pa_nil)) (pe_op op_add (pe_callB call_len (by rfl) T.len PySem.boot_len (pa_cons (pe_ix ix_tup (pv 1) pe_int (fun _ _ => rfl)) pa_nil)) pe_int) (nomark _)) (pe_slice sl_list (pv 2) po_none (po_some (pe_un un_neg pe_int))) (pv 2)) (pg_sub (pv 4) (pv 6) set_list))) (pss_one (ps_asg (pe_op op_cat (pe_op op_cat (pe_slice sl_list (pv 2) po_none (po_some (pv 7))) (pe_lst (pa_cons (pe_call G_law_pick (hr.mono (by decide)) (by rfl) T.m_law_pick T.k_law_pick b_law_pick .nil pass0 (pa_cons (pv 0) (pa_cons (pe_lst (pa_cons (pv 3) (pa_cons (pe_un un_neg pe_int) (pa_cons (pe_op op_pow pe_int pe_int) pa_nil)))) pa_nil))) pa_nil))) (pe_slice sl_list (pv 2) (po_some (pe_op op_add (pv 7) pe_int)) po_none)) (pg_sub (pv 4) (pv 6) set_list)))))))))
      (pss_cons (ps_par (i := 9) (j := 10) (by rfl) sc__law_bent.nd rfl rfl (by decide) rfl rfl (pa_cons (pe_callTy call_list_of (by rfl) T.list boot_list (pa_cons (pe_ix ix_tup (pv 1) pe_int (fun _ _ => rfl)) pa_nil)) (pa_cons (pe_lc (own := [("_law_k", 12)]) (g := gName 12) (by rfl) sc__law_bent.nd (pi_range1 (by rfl) T.range (pa_cons (pe_call G_law_draw (hr.mono (by decide)) (by rfl) T.m_law_draw T.k_law_draw b_law_draw .nil pass0 (pa_cons (pv 0) (pa_cons pe_int pa_nil))) pa_nil)) (blkOk_by (own := [("_law_k", 12)]) (N := N__law_bent) (sc := defScope s__law_bent) (by decide +kernel)) (fun _ _ _ _ _ => pg_name (i := 12) sc__law_bent.nd rfl (Or.inl rfl)) (fun _ _ _ _ _ => pts_nil) (fun _ _ _ _ _ => (pe_call G_law_pick (hr.mono (by decide)) (by rfl) T.m_law_pick T.k_law_pick b_law_pick .nil pass0 (pa_cons (pv 0) (pa_cons (pe_lst (pa_cons (pv 3) (pa_cons (pe_un un_neg pe_int) (pa_cons (pe_op op_add (pv 3) pe_int) pa_nil)))) pa_nil))))) pa_nil)) (by rfl))
      (pss_cons (ps_for PassesOwn.never rfl (pi_seq (K := K) rfl (pv 10)) (pg_name (i := 6) sc__law_bent.nd rfl (Or.inl rfl)) (pss_cons (ps_set (i := 7) sc__law_bent.nd rfl (Or.inl rfl) (pe_call G_law_draw (hr.mono (by decide)) (by rfl) T.m_law_draw T.k_law_draw b_law_draw .nil pass0 (pa_cons (pv 0) (pa_cons (pe_op op_add (pe_callB call_len (by rfl) T.len PySem.boot_len (pa_cons (pv 9) pa_nil)) pe_int) pa_nil))))
      (pss_one (ps_set (i := 9) sc__law_bent.nd rfl (Or.inl rfl) (pe_op op_cat (pe_op op_cat (pe_slice sl_list (pv 9) po_none (po_some (pv 7))) (pe_lst (pa_cons (pv 6) pa_nil))) (pe_slice sl_list (pv 9) (po_some (pv 7)) po_none))))))
      (pss_cons (ps_setLc (i := 11) (own := [("_law_state", 6)]) (g := gName 6) (by rfl) sc__law_bent.nd rfl rfl (sw_true rfl rfl rfl (by decide +kernel)) (pi_range1 (by rfl) T.range (pa_cons (pv 3) pa_nil)) (blkOk_by (own := [("_law_state", 6)]) (N := N__law_bent) (sc := defScope s__law_bent) (by decide +kernel)) (fun _ _ _ _ _ => pg_name (i := 6) sc__law_bent.nd rfl (Or.inl rfl)) (fun _ _ _ _ _ => (pts_one (pt_not (pt_val (pe_call G_law_row_right (hr.mono (by decide)) (by rfl) T.m_law_row_right T.k_law_row_right b_law_row_right .nil pass0 (pa_cons (pe_ix (ix_listK (K := K) rfl) (pv 4) (pv 6) (fun _ _ => rfl)) (pa_cons (pe_callB (call_lenK (K := K) rfl) (by rfl) T.len PySem.boot_len (pa_cons (pe_ix (ix_tupK (K := K) rfl) (pv 1) pe_int (fun _ _ => rfl)) pa_nil)) (pa_cons (pv 3) pa_nil)))))))) (fun _ _ _ _ _ => (pv 6)))
      (pss_cons (ps_set (i := 11) sc__law_bent.nd rfl (Or.inl rfl) (pe_op op_cat (pv 11) (pe_lc (own := [("_law_state", 6)]) (g := gName 6) (by rfl) sc__law_bent.nd (pi_seq (K := K) rfl (pv 9)) (blkOk_by (own := [("_law_state", 6)]) (N := N__law_bent) (sc := defScope s__law_bent) (by decide +kernel)) (fun _ _ _ _ _ => pg_name (i := 6) sc__law_bent.nd rfl (Or.inl rfl)) (fun _ _ _ _ _ => (pts_one (pt_not (pt_chain op_le op_lt pe_int (pv 6) (pv 3))))) (fun _ _ _ _ _ => (pv 6)))))
      (pss_one (ps_ret (pe_tup (pa_cons (pv 4) (pa_cons (pv 9) (pa_cons (pe_ifExp (pt_cmpR (op_neD hr.units) (pv 11) (pe_lst pa_nil) (nomark _)) (pe_ix ix_list (pv 11) pe_int (fun _ _ => rfl)) pe_non) pa_nil))))))))))))), ?_⟩
    obtain ⟨R, G, rs0, ht, hR, hrs, hG⟩ := id hS
    have lr : rs0.length = gs.length := hrs.1
    refine ⟨_, rfl, t, _, 1, .ref R, rfl, rfl, SqT.of ht, rfl, _, _, rfl, Or.inl ⟨_, SqL.of hR, rfl⟩, _, rfl, t, _, 1, .ref R, rfl, rfl, SqT.of ht, rfl, R, _, rfl, Or.inl (SqL.of hR), fun J hJ D hD => lc_it hJ (fun i H1 => RowsM H1 D (gs.take i) ∧ Same H H1)
      ⟨⟨[], upd_same, ⟨rfl, fun i x y e1 e2 => nomatch e1⟩, fun r hr => nomatch hr⟩, same_new hD⟩ (fun i H1 _ ⟨_, s1⟩ => GSq.same s1) ?_ ?_⟩
    · rintro i x H2 H1 hi ⟨⟨rs, hD1, hf, hne⟩, s1⟩ ⟨rfl, hx⟩
      rw [List.length_map] at hi
      have hi' : i < gs.length := by omega
      obtain rfl : V.ref (rs0[i]) = x := by
        rw [List.getElem?_map, List.getElem?_eq_getElem hi] at hx
        exact Option.some.inj hx
      have hrow := hrs.2 i _ _ (List.getElem?_eq_getElem hi) (List.getElem?_eq_getElem hi')
      refine ⟨rfl, ?_⟩
      refine lcYes ?_
      have lrs : rs.length = i := by rw [hf.1, List.length_take]; omega
      refine ⟨_, rfl, rs0[i], _, rfl, Or.inl (SqL.of (s1 _ _ hrow)), fun q hq => ?_⟩
      have s2 := s1.trans (same_new (o := .lst (gs[i].map V.int)) hq)
      have nqD : q ≠ D := (ne_of_none hD1 hq).symm
      refine ⟨_, same_new hq _ _ hD1, by rw [List.length_map]; exact small1000 (by omega), ⟨rs ++ [q], by rw [upd_same, List.map_append]; rfl, ?_, fun r hr => ?_⟩, s2.put hD⟩
      · rw [take_more hi']
        refine Forall2.snoc ⟨hf.1, fun j x y e1 e2 => ?_⟩ (by rw [upd_ne nqD, upd_same])
        show L2.upd _ D _ x = _
        rw [upd_ne (hne x (List.mem_of_getElem? e1))]
        exact same_new hq _ _ (hf.2 j x y e1 e2)
      · rcases List.mem_append.mp hr with h | h
        · exact hne r h
        · rw [List.mem_singleton.mp h]; exact nqD
    · rintro H1 ⟨hM1, s1⟩
      rw [List.length_map, lr, List.take_length] at hM1
      refine ⟨by show 2 ≤ sizeLine; decide, fun tt htt => ⟨tt, _, rfl, SqT.of upd_same, rfl, _, _, rfl, _, _, rfl, rfl, ?_⟩⟩
      have sT : Same H1 (L2.upd H1 tt (.tup [.int ((rs0.map V.ref).length : Nat), .ref D])) := same_new htt
      have hM2 := hM1.same sT
      have s2 := s1.trans sT
      change tSeq _ _ _ _ (L2.upd H1 tt (.tup [.int ((rs0.map V.ref).length : Nat), .ref D]))
      generalize L2.upd H1 tt (.tup [.int ((rs0.map V.ref).length : Nat), .ref D]) = H2 at hM2 s2 ⊢
      clear sT hM1 s1 htt
      have hp2 := hp.same s2
      have k2 : Kp p H H2 := Kp.of s2
      obtain ⟨kv0, hk0⟩ := id hp.dk
      have htp : t ≠ p := ne_of ht hk0 (fun z => nomatch z)
      have hGp : G ≠ p := ne_of hG hk0 (fun z => nomatch z)
      have hzs : z.length ≤ sizeLine := Nat.le_of_lt (small1000 (by omega))
      obtain ⟨nDp, nDc⟩ := hp.new hD
      refine ⟨_, rfl, p, c, 3, n, rfl, hp2, by omega, by decide, by decide, fun d H3 d0 d1 hp3 k3 => ⟨d, rfl, by omega, by omega, fun W hW => lc_range (lo := 0) (n := d.toNat) (fun j H4 => ∃ ws : List Int, H4 W = some (.lst (ws.map V.int)) ∧ ws.length = j ∧ (∀ x ∈ ws, 0 ≤ x ∧ x < (gs.length : Nat)) ∧ Pen H4 p c (n + 1 + j) ∧ Kp p H3 H4)
        ⟨[], upd_same, rfl, (fun r hr => nomatch hr), hp3.same (same_new hW), Kp.of (same_new hW)⟩ ?_ ?_⟩⟩
      · rintro j H4 hj ⟨ws, hW4, hwl, hw, hp4, k4⟩
        obtain ⟨nWp, nWc⟩ := hp3.new hW
        refine ⟨rfl, ?_⟩
        refine lcYes ?_
        refine ⟨_, rfl, _, rfl, p, c, _, _, rfl, hp4, by omega, by rw [List.length_map]; omega, by rw [List.length_map]; omega, fun g H5 g0 g1 hp5 k5 => ?_⟩
        rw [List.length_map, lr] at g1
        have hW5 := k5 _ _ hW4 nWp
        refine ⟨_, hW5, by rw [List.length_map]; exact small1000 (by omega), ws ++ [g], by rw [upd_same, List.map_append]; rfl, by rw [List.length_append, hwl]; rfl, fun x hx => ?_, (hp5.put nWp nWc).mono (by omega), (k4.trans k5).put hW⟩
        rcases List.mem_append.mp hx with h | h
        · exact hw x h
        · rw [List.mem_singleton.mp h]; exact ⟨g0, g1⟩
      · rintro H4 ⟨ws, hW4, hwl, hw, hp4, k4⟩
        obtain ⟨kv2, hk2⟩ := id hp2.dk
        obtain ⟨nWp, nWc⟩ := hp3.new hW
        have k24 := k3.trans k4
        have hM4 := hM2.kp k24 hk2
        have k04 : Kp p H H4 := k2.trans k24
        have nWD : W ≠ D := by
          obtain ⟨rs, h1, _, _⟩ := hM2
          exact (ne_of_none (k3 _ _ h1 nDp) hW).symm
        refine ⟨_, rfl, W, _, rfl, Or.inl (SqL.of hW4), fun J2 hJ2 => for_it hJ2 (fun i σ H5 => ∃ (v2 v6 v7 v8 : Option V) (gs1 : List (List Int)), σ = [some (.ref p), some (.ref t), v2, some (.int ((rs0.map V.ref).length : Nat)), some (.ref D), some (.ref W), v6, v7, v8, none, none, none, none] ∧
          RowsM H5 D gs1 ∧ gs1.length = gs.length ∧ (∀ r ∈ gs1, r.length ≤ 3 + i) ∧ H5 W = some (.lst (ws.map V.int)) ∧ Pen H5 p c (n + 4 + i * 3) ∧ Kp p H H5)
          ⟨none, none, none, none, gs, rfl, hM4, rfl, hrl, hW4, hp4.mono (by omega), k04⟩ (fun i σ H5 _ ⟨_, _, _, _, _, _, _, _, _, h, _, _⟩ => gsq_lst hW4 h) ?_ ?_⟩
        · rintro i x σ H6 H5 hi ⟨v2, v6, v7, v8, gs1, rfl, ⟨rs, hD5, hf5, hne5⟩, hgl, hrl1, hW5, hp5, k5⟩ ⟨rfl, hx⟩
          rw [List.length_map] at hi
          obtain rfl : V.int (ws[i]) = x := by
            rw [List.getElem?_map, List.getElem?_eq_getElem hi] at hx
            exact Option.some.inj hx
          obtain ⟨st0, st1⟩ := hw _ (List.getElem_mem hi)
          obtain ⟨sn, hsn⟩ : ∃ sn : Nat, ws[i] = (sn : Int) := ⟨ws[i].toNat, by omega⟩
          rw [hsn] at st0 st1
          have hsl : sn < gs1.length := by omega
          have hsr : sn < rs.length := by rw [hf5.1]; exact hsl
          have hri := hrl1 _ (List.getElem_mem hsl)
          refine ⟨_, rfl, _, rfl, t, _, 0, .str z, rfl, rfl, SqT.of (k5 _ _ ht htp), rfl, _, _, rfl, ⟨hzs, rfl⟩, p, c, _, _, rfl, hp5, by omega, by omega, by omega, fun at_ H6 a0 a1 hp6 k6 => ?_⟩
          refine ⟨_, rfl, p, c, 4, _, rfl, hp6, by omega, by decide, by decide, fun way H7 w0 w1 hp7 k7 => ?_⟩
          have k67 := k6.trans k7
          have hD7 := k67 _ _ hD5 nDp
          have hr7 : H7 rs[sn] = some (.lst (gs1[sn].map V.int)) := by
            obtain ⟨kv5, hk5⟩ := id hp5.dk
            have h := hf5.2 sn _ _ (List.getElem?_eq_getElem hsr) (List.getElem?_eq_getElem hsl)
            exact k67 _ _ h (ne_of h hk5 (fun z => nomatch z))
          refine ⟨_, rfl, _, rfl, D, _, _, .ref rs[sn], rfl, rfl, SqL.of hD7, by rw [hsn]; exact atI_nat (by rw [List.getElem?_map, List.getElem?_eq_getElem hsr]; rfl), _, _, _, rfl, ?_⟩
          have nWD' : W ≠ D := nWD
          have hp7' := hp7
          have fin : ∀ (H8 : Hp) (A : Addr) (row' : List Int), Kp p H7 H8 → H8 A = some (.lst (row'.map V.int)) → A ≠ D → row'.length ≤ gs1[sn].length + 1 → Pen H8 p c (n + 4 + (i + 1) * 3) →
              RowsM (L2.upd H8 D (.lst ((rs.map V.ref).set sn (.ref A)))) D (gs1.set sn row') ∧ (gs1.set sn row').length = gs.length ∧ (∀ r ∈ gs1.set sn row', r.length ≤ 3 + (i + 1)) ∧ (L2.upd H8 D (.lst ((rs.map V.ref).set sn (.ref A)))) W = some (.lst (ws.map V.int)) ∧ Pen (L2.upd H8 D (.lst ((rs.map V.ref).set sn (.ref A)))) p c (n + 4 + (i + 1) * 3) ∧ Kp p H (L2.upd H8 D (.lst ((rs.map V.ref).set sn (.ref A)))) := fun H8 A row' k8 hA nA hl hp8 => by
            have k58 := k67.trans k8
            obtain ⟨kv5, hk5⟩ := id hp5.dk
            refine ⟨RowsM.put sn (k58 _ _ hD5 nDp) (hf5.imp fun x y _ h => k58 _ _ h (ne_of h hk5 (fun z => nomatch z))) hne5 hA nA, by rw [List.length_set]; exact hgl, fun r hr => ?_, by rw [upd_ne nWD]; exact k58 _ _ hW5 nWp, hp8.put nDp nDc, (k5.trans k58).put hD⟩
            rcases List.mem_or_eq_of_mem_set hr with h | h
            · have := hrl1 r h; omega
            · rw [h]; omega
          have hsr' : sn < (rs.map V.ref).length := by rw [List.length_map]; exact hsr
          refine ⟨_, rfl, rfl, _, rfl, ite2 (fun c0 => ?_) (fun c0 => ?_)⟩
          · refine ⟨_, rfl, by show 1 ≤ sizeLine; decide, fun q hq => ⟨rs[sn], q, _, _, rfl, rfl, (same_new hq) _ _ hr7, upd_same, Nat.le_of_lt (small1000 (by rw [List.length_map]; show gs1[sn].length + 1 ≤ 1000; omega)), fun A hA => ?_⟩⟩
            have s8 := (same_new (o := .lst [V.int 0]) hq).trans (same_new (o := .lst (gs1[sn].map V.int ++ [V.int 0])) hA)
            exact ⟨_, rfl, _, rfl, D, _, _, sn, rfl, rfl, s8 _ _ hD7, by rw [hsn]; exact ixN_nat hsr', _, _, _, _, _, rfl, fin _ A (gs1[sn] ++ [0]) (Kp.of s8) (by rw [upd_same, List.map_append]; rfl) (ne_of_none ((same_new hq) _ _ hD7) hA).symm (by rw [List.length_append]; exact Nat.le_refl _) ((hp7.same s8).mono (by omega))⟩
          · refine ⟨_, rfl, rfl, _, rfl, ?_⟩
            refine and_rest ?_ (fun c1 els => ?_)
            · obtain ⟨an, rfl⟩ : ∃ an : Nat, at_ = an := ⟨at_.toNat, by omega⟩
              refine ⟨_, rfl, _, rfl, _, rfl, rs[sn], _, rfl, SqL.of hr7, fun A1 hA1 => ?_⟩
              rw [cutV_toN]
              have s1 : Same H7 (L2.upd H7 A1 (.lst ((gs1[sn].map V.int).take an))) := same_new hA1
              have h1 : (L2.upd H7 A1 (.lst ((gs1[sn].map V.int).take an))) A1 = some (.lst ((gs1[sn].map V.int).take an)) := upd_same
              generalize L2.upd H7 A1 (.lst ((gs1[sn].map V.int).take an)) = H8 at s1 h1 ⊢
              refine ⟨_, rfl, _, rfl, _, rfl, _, _, rfl, rfl, ⟨by decide, by decide, by decide⟩, by show 3 ≤ sizeLine; decide, fun q hq => ⟨p, c, q, _, _, rfl, (hp7.same s1).same (same_new hq), by omega, SqL.of upd_same, (by show 0 < 3; decide), (by show 3 ≤ 1000; decide), fun jj v H9 hv9 hp9 k9 => ?_⟩⟩
              obtain ⟨vi, rfl⟩ : ∃ vi : Int, v = .int vi := by
                rcases jj with _ | _ | _ | jj
                · exact ⟨_, (Option.some.inj hv9).symm⟩
                · exact ⟨_, (Option.some.inj hv9).symm⟩
                · exact ⟨_, (Option.some.inj hv9).symm⟩
                · exact nomatch hv9
              have k79 : Kp p H7 H9 := (Kp.of (s1.trans (same_new hq))).trans k9
              obtain ⟨kv7, hk7⟩ := id hp7.dk
              obtain ⟨kv8, hk8⟩ := id (hp7.same s1).dk
              have nA1p : A1 ≠ p := (ne_of_none hk7 hA1).symm
              have h9 : H9 A1 = some (.lst ((gs1[sn].map V.int).take an)) := ((Kp.of (same_new hq)).trans k9) _ _ h1 nA1p
              have hr9 : H9 rs[sn] = some (.lst (gs1[sn].map V.int)) := k79 _ _ hr7 (ne_of hr7 hk7 (fun z => nomatch z))
              have hD9 := k79 _ _ hD7 nDp
              refine ⟨by show 1 ≤ sizeLine; decide, fun A2 hA2 => ⟨A1, A2, _, _, rfl, rfl, same_new hA2 _ _ h9, upd_same, Nat.le_of_lt (small1000 (by rw [List.length_take, List.length_map]; show min an gs1[sn].length + 1 ≤ 1000; omega)), fun A3 hA3 => ?_⟩⟩
              have s3 := (same_new (o := .lst [V.int vi]) hA2).trans (same_new (o := .lst ((gs1[sn].map V.int).take an ++ [V.int vi])) hA3)
              refine ⟨_, rfl, _, rfl, _, _, rfl, rfl, _, rfl, rs[sn], _, rfl, SqL.of (s3 _ _ hr9), fun A4 hA4 => ?_⟩
              rw [show (an : Int) + 1 = ((an + 1 : Nat) : Int) by omega, cutV_fromN]
              refine ⟨A3, A4, _, _, rfl, rfl, same_new hA4 _ _ upd_same, upd_same, Nat.le_of_lt (small1000 (by rw [List.length_append, List.length_take, List.length_drop, List.length_map]; show min an gs1[sn].length + 1 + (gs1[sn].length - (an + 1)) ≤ 1000; omega)), fun A5 hA5 => ?_⟩
              have s5 := (s3.trans (same_new (o := .lst ((gs1[sn].map V.int).drop (an + 1))) hA4)).trans (same_new (o := .lst ((gs1[sn].map V.int).take an ++ [V.int vi] ++ (gs1[sn].map V.int).drop (an + 1))) hA5)
              exact ⟨_, rfl, _, rfl, D, _, _, sn, rfl, rfl, s5 _ _ hD9, by rw [hsn]; exact ixN_nat hsr', _, _, _, _, _, rfl, fin _ A5 (gs1[sn].take an ++ [vi] ++ gs1[sn].drop (an + 1)) (k79.trans (Kp.of s5)) (by rw [upd_same, List.map_append, List.map_append, List.map_take, List.map_drop]; rfl) (ne_of_none ((s3.trans (same_new (o := .lst ((gs1[sn].map V.int).drop (an + 1))) hA4)) _ _ hD9) hA5).symm (by rw [List.length_append, List.length_append, List.length_take, List.length_drop]; show min an gs1[sn].length + 1 + (gs1[sn].length - (an + 1)) ≤ gs1[sn].length + 1; omega) ((hp9.same s5).mono (by omega))⟩
            · refine ⟨_, rfl, _, _, rfl, Or.inl ⟨_, SqL.of hr7, rfl⟩, _, _, rfl, rfl, _, rfl, ite2 (fun c2 => ?_) (fun _ => els)⟩
              refine ⟨_, rfl, _, _, rfl, Or.inl ⟨_, SqL.of hr7, rfl⟩, _, rfl, t, _, 0, .str z, rfl, rfl, SqT.of (k67 _ _ (k5 _ _ ht htp) htp), rfl, _, _, rfl, ⟨hzs, rfl⟩, _, _, rfl, rfl, rfl, _, rfl, ite2 (fun c3 => ?_) (fun c3 => ?_)⟩
              · refine ⟨_, rfl, _, rfl, _, rfl, rs[sn], _, rfl, SqL.of hr7, fun A hA => ?_⟩
                obtain ⟨b, eb, lb⟩ := cutI gs1[sn] none (some (-1))
                rw [eb]
                exact ⟨_, rfl, _, rfl, D, _, _, sn, rfl, rfl, same_new hA _ _ hD7, by rw [hsn]; exact ixN_nat hsr', _, _, _, _, _, rfl, fin _ A b (Kp.of (same_new hA)) upd_same (ne_of_none hD7 hA).symm (by omega) ((hp7.same (same_new hA)).mono (by omega))⟩
              · exact ⟨_, rfl, _, rfl, _, rfl, D, _, _, sn, rfl, rfl, hD7, by rw [hsn]; exact ixN_nat hsr', _, _, _, _, _, rfl, fin _ _ gs1[sn] (Kp.refl _ _) hr7 (hne5 _ (List.getElem_mem hsr)) (by omega) (hp7.mono (by omega))⟩
        · rintro σ H5 ⟨v2, v6, v7, v8, gs1, rfl, hM5, hgl, hrl1, hW5, hp5, k5⟩
          rw [List.length_map] at hrl1 hp5
          have hwl3 : ws.length ≤ 2 := by omega
          have ht5 := k5 _ _ ht htp
          have hG5 := k5 _ _ hG hGp
          refine ⟨_, rfl, t, _, 2, .ref G, rfl, rfl, SqT.of ht5, rfl, G, _, rfl, Or.inl (SqL.of hG5), fun G0 hG0 => ?_⟩
          have s6 : Same H5 (L2.upd H5 G0 (.lst (es.map V.int))) := same_new hG0
          have hG6 : (L2.upd H5 G0 (.lst (es.map V.int))) G0 = some (.lst (es.map V.int)) := upd_same
          obtain ⟨kv5, hk5⟩ := id hp5.dk
          have nG0p : G0 ≠ p := (ne_of_none hk5 hG0).symm
          generalize L2.upd H5 G0 (.lst (es.map V.int)) = H6 at s6 hG6 ⊢
          have hp6 := hp5.same s6
          refine ⟨_, rfl, p, c, 3, _, rfl, hp6, by omega, by decide, by decide, fun d2 H7 d20 d21 hp7 k7 => ⟨d2, rfl, by omega, by omega, fun W2 hW2 => lc_range (lo := 0) (n := d2.toNat) (fun j H8 => ∃ us : List Int, H8 W2 = some (.lst (us.map V.int)) ∧ us.length = j ∧ Pen H8 p c (n + 4 + ws.length * 3 + 1 + j) ∧ Kp p H7 H8)
            ⟨[], upd_same, rfl, hp7.same (same_new hW2), Kp.of (same_new hW2)⟩ ?_ ?_⟩⟩
          · rintro j H8 hj ⟨us, hW8, hul, hp8, k8⟩
            obtain ⟨nWp2, nWc2⟩ := hp7.new hW2
            refine ⟨rfl, ?_⟩
            refine lcYes ?_
            refine ⟨_, rfl, _, rfl, _, rfl, _, rfl, _, _, rfl, rfl, by show 3 ≤ sizeLine; decide, fun q hq => ⟨p, c, q, _, _, rfl, hp8.same (same_new hq), by omega, SqL.of upd_same, (by show 0 < 3; decide), (by show 3 ≤ 1000; decide), fun jj v H9 hv9 hp9 k9 => ?_⟩⟩
            obtain ⟨vi, rfl⟩ : ∃ vi : Int, v = .int vi := by
              rcases jj with _ | _ | _ | jj
              · exact ⟨_, (Option.some.inj hv9).symm⟩
              · exact ⟨_, (Option.some.inj hv9).symm⟩
              · exact ⟨_, (Option.some.inj hv9).symm⟩
              · exact nomatch hv9
            have k89 : Kp p H8 H9 := (Kp.of (same_new hq)).trans k9
            have hW9 := k89 _ _ hW8 nWp2
            exact ⟨_, hW9, by rw [List.length_map]; exact small1000 (by omega), us ++ [vi], by rw [upd_same, List.map_append]; rfl, by rw [List.length_append, hul]; rfl, (hp9.put nWp2 nWc2).mono (by omega), (k8.trans k89).put hW2⟩
          · rintro H8 ⟨us, hW8, hul, hp8, k8⟩
            obtain ⟨nWp2, nWc2⟩ := hp7.new hW2
            obtain ⟨kv6, hk6⟩ := id hp6.dk
            have k68 := k7.trans k8
            have hG8 := k68 _ _ hG6 nG0p
            have hM8 := (hM5.same s6).kp k68 hk6
            have k08 : Kp p H H8 := (k5.trans (Kp.of s6)).trans k68
            refine ⟨_, _, rfl, ?_⟩
            refine ⟨_, rfl, W2, _, rfl, Or.inl (SqL.of hW8), fun J3 hJ3 => for_it hJ3 (fun i σ H9 => ∃ (v6 v7 : Option V) (G1 : Addr) (es1 : List Int), σ = [some (.ref p), some (.ref t), v2, some (.int ((rs0.map V.ref).length : Nat)), some (.ref D), some (.ref W), v6, v7, v8, some (.ref G1), some (.ref W2), none, none] ∧
              RowsM H9 D gs1 ∧ H9 G1 = some (.lst (es1.map V.int)) ∧ es1.length ≤ 20 + i ∧ H9 W2 = some (.lst (us.map V.int)) ∧ Pen H9 p c (n + 20 + i) ∧ Kp p H H9)
              ⟨v6, v7, G0, es, rfl, hM8, hG8, hel, hW8, hp8.mono (by omega), k08⟩ (fun i σ H9 _ ⟨_, _, _, _, _, _, _, _, h, _, _⟩ => gsq_lst hW8 h) ?_ ?_⟩
            · rintro i x σ H10 H9 hi ⟨v6, v7, G1, es1, rfl, hM9, hG9, hel9, hW9, hp9, k9⟩ ⟨rfl, hx⟩
              rw [List.length_map] at hi
              obtain rfl : V.int (us[i]) = x := by
                rw [List.getElem?_map, List.getElem?_eq_getElem hi] at hx
                exact Option.some.inj hx
              refine ⟨_, rfl, _, rfl, _, _, rfl, Or.inl ⟨_, SqL.of hG9, rfl⟩, _, _, rfl, rfl, p, c, _, _, rfl, hp9, by omega, by omega, by rw [List.length_map]; omega, fun at_ H10 a0 a1 hp10 k10 => ?_⟩
              obtain ⟨an, rfl⟩ : ∃ an : Nat, at_ = an := ⟨at_.toNat, by omega⟩
              obtain ⟨kv9, hk9⟩ := id hp9.dk
              have hG10 := k10 _ _ hG9 (ne_of hG9 hk9 (fun z => nomatch z))
              have hW10 := k10 _ _ hW9 nWp2
              have hM10 := hM9.kp k10 hk9
              refine ⟨_, rfl, _, rfl, _, rfl, G1, _, rfl, SqL.of hG10, fun A1 hA1 => ?_⟩
              rw [cutV_toN]
              refine ⟨_, rfl, by show 1 ≤ sizeLine; decide, fun A2 hA2 => ⟨A1, A2, _, _, rfl, rfl, same_new hA2 _ _ upd_same, upd_same, Nat.le_of_lt (small1000 (by rw [List.length_take, List.length_map]; show min an es1.length + 1 ≤ 1000; omega)), fun A3 hA3 => ?_⟩⟩
              have s3 := ((same_new (o := .lst ((es1.map V.int).take an)) hA1).trans (same_new (o := .lst [V.int us[i]]) hA2)).trans (same_new (o := .lst ((es1.map V.int).take an ++ [V.int us[i]])) hA3)
              refine ⟨_, rfl, _, rfl, _, rfl, G1, _, rfl, SqL.of (s3 _ _ hG10), fun A4 hA4 => ?_⟩
              rw [cutV_fromN]
              refine ⟨A3, A4, _, _, rfl, rfl, same_new hA4 _ _ upd_same, upd_same, Nat.le_of_lt (small1000 (by rw [List.length_append, List.length_take, List.length_drop, List.length_map]; show min an es1.length + 1 + (es1.length - an) ≤ 1000; omega)), fun A5 hA5 => ?_⟩
              have s5 := (s3.trans (same_new (o := .lst ((es1.map V.int).drop an)) hA4)).trans (same_new (o := .lst ((es1.map V.int).take an ++ [V.int us[i]] ++ (es1.map V.int).drop an)) hA5)
              exact ⟨_, _, A5, es1.take an ++ [us[i]] ++ es1.drop an, rfl, hM10.same s5, by rw [upd_same, List.map_append, List.map_append, List.map_take, List.map_drop]; rfl, by rw [List.length_append, List.length_append, List.length_take, List.length_drop]; show min an es1.length + 1 + (es1.length - an) ≤ _; omega, s5 _ _ hW10, (hp10.same s5).mono (by omega), (k9.trans k10).trans (Kp.of s5)⟩
            · rintro σ H9 ⟨v6, v7, G1, es1, rfl, hM9, hG9, hel9, hW9, hp9, k9⟩
              rw [List.length_map] at hel9 hp9
              have hul2 : us.length ≤ 2 := by omega
              have ht9 := k9 _ _ ht htp
              obtain ⟨rs, hD9, hf9, hne9⟩ := id hM9
              have hrsl : rs.length = gs1.length := hf9.1
              have ec : (rs0.map V.ref).length = gs1.length := by rw [List.length_map]; omega
              rw [ec]
              refine ⟨_, rfl, _, rfl, by omega, by omega, fun X hX => lc_range (lo := 0) (n := gs1.length) (fun j H1 => H1 X = some (.lst ((((List.range j).filter fun j => !okRow z.length gs1.length (gs1.getD j [])).map Int.ofNat).map V.int)) ∧ Same H9 H1)
                ⟨upd_same, same_new hX⟩ ?_ ?_⟩
              · rintro j H1 hj ⟨hX1, s1⟩
                have hjr : j < rs.length := by omega
                have hrow := hf9.2 j _ _ (List.getElem?_eq_getElem hjr) (List.getElem?_eq_getElem hj)
                have hrj := hrl1 _ (List.getElem_mem hj)
                refine ⟨rfl, ?_⟩
                have hgd : gs1.getD j [] = gs1[j] := by rw [List.getD_eq_getElem?_getD, List.getElem?_eq_getElem hj, Option.getD_some]
                have hlen : ((((List.range j).filter fun j => !okRow z.length gs1.length (gs1.getD j [])).map Int.ofNat).map V.int).length < sizeLine := by
                  rw [List.length_map, List.length_map]
                  have h1 := List.length_filter_le (fun j => !okRow z.length gs1.length (gs1.getD j [])) (List.range j)
                  rw [List.length_range] at h1
                  exact small1000 (by omega)
                refine ⟨_, rfl, _, rfl, D, _, _, .ref rs[j], rfl, rfl, SqL.of (s1 _ _ hD9), at_of' (show (0 : Int) + j = ((j : Nat) : Int) by omega) (by rw [List.getElem?_map, List.getElem?_eq_getElem hjr]; rfl), _, rfl, t, _, 0, .str z, rfl, rfl, SqT.of (s1 _ _ ht9), rfl, _, _, rfl, ⟨hzs, rfl⟩, _, rfl, rs[j], gs1[j], z.length, gs1.length, rfl, SqL.of (s1 _ _ hrow), by omega, fun H2 s2 => ⟨_, rfl, ?_⟩⟩
                have s12 := s1.trans s2
                have hX2 := s2 _ _ hX1
                cases ho : okRow z.length gs1.length gs1[j] with
                | true =>
                  refine ⟨?_, s12⟩
                  rw [List.range_succ, List.filter_append, List.filter_cons_of_neg (by rw [hgd, ho]; decide), List.filter_nil, List.append_nil]
                  exact hX2
                | false =>
                  refine ⟨_, rfl, _, hX2, hlen, ?_, s12.put hX⟩
                  rw [upd_same, List.range_succ, List.filter_append, List.filter_cons_of_pos (by rw [hgd, ho]; rfl), List.filter_nil, List.map_append, List.map_append]
                  show _ = some (HO.lst (_ ++ [V.int (j : Int)]))
                  rw [Int.zero_add]
              · rintro H10 ⟨hX10, s10⟩
                change H10 X = some (.lst ((wrongRows z.length gs1).map V.int)) at hX10
                have hG10 := s10 _ _ hG9
                have hwl' : (wrongRows z.length gs1).length ≤ 8 := by
                  unfold wrongRows
                  rw [List.length_map]
                  have h1 := List.length_filter_le (fun j => !okRow z.length gs1.length (gs1.getD j [])) (List.range gs1.length)
                  rw [List.length_range] at h1
                  omega
                refine ⟨_, rfl, _, rfl, G1, _, rfl, Or.inl (SqL.of hG10), fun J4 hJ4 Y hY => lc_it hJ4 (fun i H1 => H1 Y = some (.lst (((es1.take i).filter (okG gs1.length)).map V.int)) ∧ Same H10 H1) ⟨upd_same, same_new hY⟩ (fun i H1 _ ⟨_, s1⟩ => GSq.same s1) ?_ ?_⟩
                · rintro i x H2 H1 hi ⟨hD1, s1⟩ ⟨rfl, hx⟩
                  rw [List.length_map] at hi
                  obtain rfl : V.int (es1[i]) = x := by
                    rw [List.getElem?_map, List.getElem?_eq_getElem hi] at hx
                    exact Option.some.inj hx
                  refine ⟨rfl, ?_⟩
                  have yes : okG gs1.length es1[i] = true → ((es1.take (i + 1)).filter (okG gs1.length)) = (es1.take i).filter (okG gs1.length) ++ [es1[i]] := fun e => by
                    rw [take_more hi, List.filter_append, List.filter_cons_of_pos e]; rfl
                  have no : okG gs1.length es1[i] = false → ((es1.take (i + 1)).filter (okG gs1.length)) = (es1.take i).filter (okG gs1.length) := fun e => by
                    rw [take_more hi, List.filter_append, List.filter_cons_of_neg (by rw [e]; decide), List.filter_nil, List.append_nil]
                  have hlen : (((es1.take i).filter (okG gs1.length)).map V.int).length < sizeLine := by
                    rw [List.length_map]
                    have h1 := List.length_filter_le (okG gs1.length) (es1.take i)
                    rw [List.length_take] at h1
                    exact small1000 (by omega)
                  have put : okG gs1.length es1[i] = true → L2.upd H1 Y (.lst (((es1.take i).filter (okG gs1.length)).map V.int ++ [V.int es1[i]])) Y = some (.lst (((es1.take (i + 1)).filter (okG gs1.length)).map V.int)) ∧ Same H10 (L2.upd H1 Y (.lst (((es1.take i).filter (okG gs1.length)).map V.int ++ [V.int es1[i]]))) := fun e => ⟨by rw [upd_same, yes e, List.map_append]; rfl, s1.put hY⟩
                  refine ⟨_, rfl, _, _, rfl, rfl, _, rfl, ?_⟩
                  by_cases g0 : 0 ≤ es1[i]
                  · rw [if_pos (decide_eq_true g0)]
                    refine ⟨_, rfl, _, _, rfl, rfl, _, rfl, ?_⟩
                    by_cases g1 : es1[i] < gs1.length
                    · have e : okG gs1.length es1[i] = false := by unfold okG; rw [decide_eq_true g0, decide_eq_true g1]; rfl
                      refine ite2 (fun c => absurd c ?_) (fun _ => ⟨by rw [no e]; exact hD1, s1⟩)
                      rw [decide_eq_true g1]; decide
                    · have e : okG gs1.length es1[i] = true := by unfold okG; rw [decide_eq_true g0, decide_eq_false g1]; rfl
                      refine ite2 (fun _ => ⟨_, rfl, _, hD1, hlen, put e⟩) (fun c => absurd ?_ c)
                      rw [decide_eq_false g1]; decide
                  · rw [if_neg (by simpa using g0)]
                    have e : okG gs1.length es1[i] = true := by unfold okG; rw [decide_eq_false g0]; rfl
                    refine ⟨_, rfl, ?_⟩
                    exact ite2 (fun _ => ⟨_, rfl, _, hD1, hlen, put e⟩) (fun c => absurd rfl c)
                · rintro H11 ⟨hY11, s11⟩
                  rw [List.length_map, List.take_length] at hY11
                  have hfl := List.length_filter_le (okG gs1.length) es1
                  refine ⟨X, Y, _, _, rfl, rfl, s11 _ _ hX10, hY11, Nat.le_of_lt (small1000 (by rw [List.length_map, List.length_map]; omega)), fun Z hZ => ?_⟩
                  have s12 : Same H11 (L2.upd H11 Z (.lst ((wrongRows z.length gs1).map V.int ++ (es1.filter (okG gs1.length)).map V.int))) := same_new hZ
                  have hZ12 : (L2.upd H11 Z (.lst ((wrongRows z.length gs1).map V.int ++ (es1.filter (okG gs1.length)).map V.int))) Z = some (.lst ((wrongRows z.length gs1 ++ es1.filter (okG gs1.length)).map V.int)) := by rw [upd_same, List.map_append]
                  have hdue : DueAt z.length gs1 es1 (wrongRows z.length gs1 ++ es1.filter (okG gs1.length)).head? := due_at (by omega)
                  generalize L2.upd H11 Z (.lst ((wrongRows z.length gs1).map V.int ++ (es1.filter (okG gs1.length)).map V.int)) = H12 at s12 hZ12 ⊢
                  generalize wrongRows z.length gs1 ++ es1.filter (okG gs1.length) = dl at hZ12 hdue
                  have s9 := (s10.trans s11).trans s12
                  refine ⟨_, rfl, _, rfl, _, rfl, by show 0 ≤ sizeLine; decide, fun E1 hE1 => ⟨intsD dl, intsD [], .lst (SqL.of (same_new hE1 _ _ hZ12)) (dpAll_ints _ _ _), .lst (xs := []) (SqL.of upd_same) .nil, shaped_intsD _, shaped_intsD _, _, rfl, ?_⟩⟩
                  have s13 := s9.trans (same_new (o := .lst []) hE1)
                  have hZ13 := same_new (o := .lst []) hE1 _ _ hZ12
                  generalize L2.upd H12 E1 (.lst []) = H13 at s13 hZ13 ⊢
                  rw [eqv_intsD]
                  have fin : ∀ t' : Addr, H13 t' = none → Q (.ref t') (L2.upd H13 t' (.tup [.ref D, .ref G1, dueV dl.head?])) := fun t' ht' => by
                    have s14 : Same H9 (L2.upd H13 t' (.tup [.ref D, .ref G1, dueV dl.head?])) := s13.trans (same_new ht')
                    exact k t' D G1 gs1 es1 dl.head? _ upd_same (hM9.same s14).dp (s14 _ _ hG9) hgl (fun r hr => by have := hrl1 r hr; omega) (by omega) hdue ((hp9.same s14).mono (by omega)) (k9.trans (Kp.of s14))
                  cases dl with
                  | nil =>
                    refine ite2 (fun c => absurd c (by decide)) (fun _ => ?_)
                    exact ⟨by show 3 ≤ sizeLine; decide, fun t' ht' => fin t' ht'⟩
                  | cons a l =>
                    refine ite2 (fun _ => ?_) (fun c => absurd rfl c)
                    exact ⟨_, rfl, Z, _, 0, .int a, rfl, rfl, SqL.of hZ13, at_of' (show (0 : Int) = ((0 : Nat) : Int) from rfl) rfl, by show 3 ≤ sizeLine; decide, fun t' ht' => fin t' ht'⟩
end
end Vf
set_option Elab.async false
set_option linter.all false
set_option maxRecDepth 100000
set_option maxHeartbeats 4000000
namespace Vf
open PySem L2 PyProof.Rows
theorem set_same {gs : List (List Int)} {s a : Nat} {g : Int} (hs : s < gs.length) (ha : a < gs[s].length) : gs = gs.set s (gs[s].set a g) ↔ g = gs[s][a] := by
  constructor
  · intro e
    have h1 : gs[s]? = (gs.set s (gs[s].set a g))[s]? := congrArg (·[s]?) e
    rw [List.getElem?_set_self hs, List.getElem?_eq_getElem hs] at h1
    have h2 : gs[s][a]? = (gs[s].set a g)[a]? := congrArg (·[a]?) (Option.some.inj h1)
    rw [List.getElem?_set_self ha, List.getElem?_eq_getElem ha] at h2
    exact (Option.some.inj h2).symm
  · rintro rfl
    rw [List.set_getElem_self, List.set_getElem_self]
theorem good_set {m : Nat} {gs : List (List Int)} {s a : Nat} {g : Int} (h : GoodRows m gs) (hs : s < gs.length) (h0 : 0 ≤ g) (h1 : g < gs.length) : GoodRows m (gs.set s (gs[s].set a g)) := by
  refine ⟨fun j hj => ?_, by rw [List.length_set]; exact h.2⟩
  rw [List.length_set] at hj ⊢
  obtain ⟨e1, e2⟩ := good_row h hs
  rw [List.getElem_set]
  split
  · rintro (q | ⟨x, hx, q⟩)
    · exact q (by rw [List.length_set]; exact e1)
    · rcases List.mem_or_eq_of_mem_set hx with r | r
      · exact q (e2 x r)
      · rw [r] at q; exact q ⟨h0, h1⟩
  · exact h.1 j hj
theorem good_more {m : Nat} {gs : List (List Int)} (h : GoodRows m gs) : GoodRows m (gs ++ [gs[0]'h.2]) := by
  have hb : ∀ r ∈ gs, r.length = m ∧ ∀ g ∈ r, 0 ≤ g ∧ g < gs.length := fun r hr => by
    obtain ⟨i, hi, rfl⟩ := List.getElem_of_mem hr
    exact good_row h hi
  refine ⟨fun j hj => ?_, by rw [List.length_append]; have := h.2; omega⟩
  have hm : (gs ++ [gs[0]'h.2])[j] ∈ gs := by
    rcases List.mem_append.mp (List.getElem_mem hj) with q | q
    · exact q
    · rw [List.mem_singleton.mp q]; exact List.getElem_mem h.2
  obtain ⟨e1, e2⟩ := hb _ hm
  rintro (q | ⟨x, hx, q⟩)
  · exact q e1
  · obtain ⟨q1, q2⟩ := e2 x hx
    exact q ⟨q1, by rw [List.length_append]; show x < ((gs.length + 1 : Nat) : Int); omega⟩
/-- the shape that Shape(..) makes of data -/
def MadeAt (K : PySem.W.Frag) (C : Addr) (H : Hp) (o : Addr) (z : Str) (gs : List (List Int)) (es : List Int) : Prop := ∃ es', Up es' ∧ (∀ x, x ∈ es' ↔ x ∈ es) ∧ ShapeAt K C H o z gs es'
theorem ShapeAt.kp {K : PySem.W.Frag} {C o p : Addr} {H H' : Hp} {z : Str} {rs : List (List Int)} {es : List Int} {kvs : List (Key × V)} (c : ShapeAt K C H o z rs es) (k : Kp p H H') (hp : H p = some (.dK kvs)) : ShapeAt K C H' o z rs es := by
  obtain ⟨dx, R, E, h1, h2, h3⟩ := c
  exact ⟨dx, R, E, k _ _ h1 (L2.ne_of h1 hp (by intro z; cases z)), h2.mv (Kl.kp k hp), h3.mv (Kl.kp k hp)⟩
theorem MadeAt.kp {K : PySem.W.Frag} {C o p : Addr} {H H' : Hp} {z : Str} {rs : List (List Int)} {es : List Int} {kvs : List (Key × V)} (c : MadeAt K C H o z rs es) (k : Kp p H H') (hp : H p = some (.dK kvs)) : MadeAt K C H' o z rs es := by
  obtain ⟨es', h1, h2, h3⟩ := c
  exact ⟨es', h1, h2, h3.kp k hp⟩
theorem MadeAt.same {K : PySem.W.Frag} {C o : Addr} {H H' : Hp} {z : Str} {rs : List (List Int)} {es : List Int} (c : MadeAt K C H o z rs es) (s : Same H H') : MadeAt K C H' o z rs es := by
  obtain ⟨es', h1, h2, h3⟩ := c
  exact ⟨es', h1, h2, h3.same s⟩
/-- Shape(..) of right data -/
theorem mk_ok {K : PySem.W.Frag} {C CB : Addr} {H : Hp} {z : Str} {R : V} {g : Addr} {gs : List (List Int)} {es : List Int} {S : VK} {E : XK} {x dx : Addr} (hx : H x = none) (hdx : H dx = none) (ne : dx ≠ x) (hR : RwsI K H R gs) (hg : H g = some (.lst (es.map V.int))) (good : GoodRows z.length gs) (ge : ∀ e ∈ es, 0 ≤ e ∧ e < (gs.length : Nat)) (hz : z.length ≤ 26) (hl : gs.length ≤ 100) (hel : es.length < 64)
    (k : ∀ H', Same H H' → MadeAt K C H' x z gs es → S .non H') : spInitS K C CB (.ref x :: ([.str z, R, .ref g] ++ [])) (L2.upd (L2.upd H dx (.own x)) x (.ins C dx [])) S E := by
  have hx' : (L2.upd H dx (.own x)) x = none := by rw [upd_ne ne.symm]; exact hx
  have s0 : Same H (L2.upd (L2.upd H dx (.own x)) x (.ins C dx [])) := (same_new hdx).trans (same_new hx')
  refine ⟨x, dx, z, R, g, gs, es, rfl, upd_same, hR.mv (Kl.same s0), SqL.of (s0 _ _ hg), hz, hl, hel, fun r hr => ?_, fun _ _ H' es' hu hm hSh hk => k H' (fun b u e => hk b u (s0 _ _ e) (ne_of_none e hx)) ⟨es', hu, hm, hSh⟩, fun i hb => absurd hb (not_badRow good), fun _ i hi hb => absurd (ge _ (List.getElem_mem hi)) hb⟩
  obtain ⟨i, hi, rfl⟩ := List.getElem_of_mem hr
  have := (good_row good hi).1
  omega
/-- made shapes compared -/
theorem eq_ok {K : PySem.W.Frag} {C o o2 : Addr} {H : Hp} {z z2 : Str} {gs gs2 : List (List Int)} {es es2 : List Int} {Q : VK} (a : MadeAt K C H o z gs es) (a2 : MadeAt K C H o2 z2 gs2 es2) (b : Bool) (hb : b = true ↔ (z = z2 ∧ gs = gs2 ∧ ∀ x, x ∈ es ↔ x ∈ es2)) (k : ∀ H', Same H H' → Q (.bl b) H') : rOwnI C (spEqS K C) E0 (.ref o) (.ref o2) H Q := by
  obtain ⟨f, u, m, h⟩ := a
  obtain ⟨f2, u2, m2, h2⟩ := a2
  obtain ⟨dx, R, E, ho, _⟩ := id h
  obtain ⟨dx2, R2, E2, ho2, _⟩ := id h2
  refine ⟨o, dx, _, o2, dx2, _, rfl, rfl, ho, ho2, o, o2, z, z2, gs, gs2, f, f2, rfl, h, h2, fun H' s => ?_⟩
  have e : (decide (z = z2) && (decide (gs = gs2) && decide (f = f2))) = b := by
    rw [Bool.eq_iff_iff, hb, Bool.and_eq_true, Bool.and_eq_true, decide_eq_true_eq, decide_eq_true_eq, decide_eq_true_eq]
    refine and_congr_right fun _ => and_congr_right fun _ => ?_
    constructor
    · rintro rfl x
      rw [← m x, m2 x]
    · intro q
      exact up_ext u u2 fun x => by rw [m x, q x, m2 x]
  rw [e]
  exact k H' s
def neI (e0 : Int) (x : Int) : Bool := decide (x ≠ e0)
def neN (z0 : Nat) (c : Nat) : Bool := decide (c ≠ z0)
theorem neI_t {e x : Int} (h : x ≠ e) : neI e x = true := decide_eq_true h
theorem neN_t {e x : Nat} (h : x ≠ e) : neN e x = true := decide_eq_true h
theorem neI_f {e x : Int} (h : x = e) : ¬ neI e x = true := by unfold neI; simp [h]
theorem neN_f {e x : Nat} (h : x = e) : ¬ neN e x = true := by unfold neN; simp [h]
theorem eqO_t {K : PySem.W.Frag} {C o t : Addr} {H : Hp} {z : Str} {gs : List (List Int)} {es : List Int} {xs : List V} {Q : VK} (a : MadeAt K C H o z gs es) (ht : H t = some (.tup xs)) (k : ∀ H', Same H H' → Q (.bl false) H') : rOwnT K C (spEqO K C) E0 (.ref o) (.ref t) H Q := by
  obtain ⟨f, u, m, h⟩ := a
  obtain ⟨dx, R, E, ho, _⟩ := id h
  exact ⟨o, dx, _, t, _, rfl, rfl, ho, SqT.of ht, o, z, gs, f, .ref t, rfl, h, Or.inr ⟨t, _, rfl, ht⟩, k⟩
theorem eqO_s {K : PySem.W.Frag} {C o : Addr} {H : Hp} {z y : Str} {gs : List (List Int)} {es : List Int} {Q : VK} (a : MadeAt K C H o z gs es) (k : ∀ H', Same H H' → Q (.bl false) H') : rOwnS C (spEqO K C) E0 (.ref o) (.str y) H Q := by
  obtain ⟨f, u, m, h⟩ := a
  obtain ⟨dx, R, E, ho, _⟩ := id h
  exact ⟨o, dx, _, y, rfl, rfl, ho, o, z, gs, f, .str y, rfl, h, Or.inl ⟨y, rfl⟩, k⟩
theorem nodup_le : ∀ {a b : List Int}, a.Nodup → (∀ x ∈ a, x ∈ b) → a.length ≤ b.length
  | [], _, _, _ => Nat.zero_le _
  | x :: a, b, hn, h => by
    obtain ⟨h1, h2⟩ := List.nodup_cons.mp hn
    have hx := h x List.mem_cons_self
    have h3 := nodup_le (a := a) (b := b.erase x) h2 fun y hy => (List.mem_erase_of_ne (fun e : y = x => h1 (by rw [← e]; exact hy))).mpr (h y (List.mem_cons_of_mem _ hy))
    have h4 := List.length_erase_of_mem hx
    have h5 := List.length_pos_of_mem hx
    rw [List.length_cons]
    omega
theorem up_le {f es : List Int} (u : Up f) (m : ∀ x, x ∈ f ↔ x ∈ es) : f.length ≤ es.length := nodup_le (u.imp fun h => by omega) fun x hx => (m x).mp hx
theorem str_ok {K : PySem.W.Frag} {C o : Addr} {H : Hp} {z : Str} {gs : List (List Int)} {es : List Int} {Q : VK} (a : MadeAt K C H o z gs es) (hg : GoodRows z.length gs) (hz : z.length ≤ 26) (hl : gs.length ≤ 100) (he : es.length ≤ 100) (k : ∀ y H', Same H H' → Q (.str y) H') : rStrI C (spStrS K C) E0 [.ref o] H Q := by
  obtain ⟨f, u, m, h⟩ := a
  obtain ⟨dx, R, E, ho, _⟩ := id h
  exact ⟨o, dx, _, rfl, ho, o, z, gs, f, rfl, h, hg, hz, hl, Nat.le_trans (up_le u m) he, fun y H' s => ⟨y, rfl, k y H' s⟩⟩
theorem abcd_len (z0 n : Nat) (hn : n ≤ 3) : (((TL.tl "abcd").filter (neN z0)).take n).length = n := by
  have e : TL.tl "abcd" = [97, 98, 99, 100] := by decide +kernel
  rw [List.length_take, e]
  have h3 : 3 ≤ ([97, 98, 99, 100].filter (neN z0)).length := by
    by_cases h1 : z0 = 97
    · subst h1; decide
    · by_cases h2 : z0 = 98
      · subst h2; decide
      · by_cases h3 : z0 = 99
        · subst h3; decide
        · rw [List.filter_cons_of_pos (neN_t fun q => h1 q.symm), List.filter_cons_of_pos (neN_t fun q => h2 q.symm), List.filter_cons_of_pos (neN_t fun q => h3 q.symm)]
          rw [List.length_cons, List.length_cons, List.length_cons]
          omega
  omega
structure TxtLi (K : PySem.W.Frag) (mg : Str → Option Value) (C fCG fCD B CB fB' fSP fSt fEq fLn fD fSr : Addr) : Prop extends TxtSM K mg C fCG fCD B CB fB' fSP fSt fEq fLn where
  int : mg "int" = none
  list : mg "list" = none
  range : mg "range" = none
  str : mg "str" = none
  m_law_draw : mg "_law_draw" = some (.ref fD)
  k_law_draw : PySem.W.keepIn K (.ref fD) = true
  kt : PySem.W.kitOne K (.type "tuple") (.ref C) = some false
  ks : PySem.W.kitOne K (.type "str") (.ref C) = some false
  ht : PySem.W.subIn K (.type "tuple") (.ref C) = some false
  hs : PySem.W.subIn K (.type "str") (.ref C) = some false
  srs : PySem.W.findIn K (.ref C) "__str__" = some (some (.ref fSr))
  srf : PySem.W.isFn K (.ref fSr) = true
section
variable {P : Program} {w : World} {K : PySem.W.Frag} {mg : Str → Option Value} {base : Heap}
def spLikeS (K : PySem.W.Frag) (C : Addr) : Sp := fun vs H Q _ => ∃ (o p c t : Addr) (z : Str) (gs : List (List Int)) (es : List Int) (n : Nat), vs = [.ref o, .ref t, .ref p] ∧ MadeAt K C H o z gs es ∧ ShD H t z gs es ∧ GoodRows z.length gs ∧ (∀ e ∈ es, 0 ≤ e ∧ e < (gs.length : Nat)) ∧ 0 < es.length ∧ es.length ≤ 20 ∧ 1 ≤ z.length ∧ z.length ≤ 3 ∧ gs.length ≤ 8 ∧ Pen H p c n ∧ n ≤ 2 ^ 29 ∧
  ∀ H', Pen H' p c (n + 10) → Kp p H H' → Q (.bl true) H'
abbrev s__law_like : Stmt := top 28
abbrev N__law_like : List Str := ["_law_made", "_law_shape_here", "_law_pen_here", "_law_letters_here", "_law_rows", "_law_good", "_law_state", "_law_at", "_law_goal", "_law_turned", "_law_rest", "_law_others", "_law_row", "_law_one", "_law_sign"]
abbrev P__law_like : List Str := ["_law_made", "_law_shape_here", "_law_pen_here"]
theorem sc__law_like : FnScope N__law_like P__law_like (defScope s__law_like) := ⟨rfl, rfl, rfl, by decide +kernel, rfl, by decide +kernel, by decide +kernel⟩

theorem ok_like {f fI C fCG fCD B CB fB' fSP fSt fEq fLn fD fSr : Addr} {fd fdI fdCG fdCD fdB fdEq fdD fdSr : FuncData} (F : Fun K "_law_like" "_law_like" s__law_like f fd) (T : TxtLi K mg C fCG fCD B CB fB' fSP fSt fEq fLn fD fSr)
    (MShape : Mk K C fI) (FI : Fun K "__init__" "Shape.__init__" s_Shape___init__ fI fdI) (bShape : Binds K fdI P_Shape___init__ []) (FCG : Fun K "check_goals" "check_goals" s_check_goals fCG fdCG) (bCG : Binds K fdCG P_check_goals [])
    (FCD : Fun K "check_good" "check_good" s_check_good fCD fdCD) (bCD : Binds K fdCD P_check_good []) (FB' : Fun K "__init__" "BadCode.__init__" s_BadCode___init__ fB' fdB) (bB' : Binds K fdB P_BadCode___init__ [])
    (FEq : Fun K "__eq__" "Shape.__eq__" s_Shape___eq__ fEq fdEq) (bEq : Binds K fdEq P_Shape___eq__ []) (FSr : Fun K "__str__" "Shape.__str__" s_Shape___str__ fSr fdSr) (bSr : Binds K fdSr P_Shape___str__ [])
    (FD : Fun K "_law_draw" "_law_draw" s__law_draw fD fdD) (b_law_draw : Binds K fdD P__law_draw []) : FnOk P w K mg base (L2.CX P w) 7 f fd P__law_like (spLikeS K C) := by
  have G_law_draw : FnOk P w K mg base CX0 1 fD fdD P__law_draw spDraw := ok_draw FD ⟨T.int, T.len, T.list, T.range, T.sorted⟩
  have GShape : FnOk P w K mg base (L2.CX P w) 4 fI fdI P_Shape___init__ (spInitS K C CB) := ok_initS FI T.toTxtS FCG bCG FCD bCD FB' bB'
  have GEq : FnOk P w K mg base CX0 1 fEq fdEq P_Shape___eq__ (spEqS K C) := ok_eqS FEq T.toTxtSM
  have GEqO : FnOk P w K mg base CX0 1 fEq fdEq P_Shape___eq__ (spEqO K C) := ok_eqO FEq T.toTxtSM T.kt T.ks
  have GSr : FnOk P w K mg base CX0 1 fSr fdSr P_Shape___str__ (spStrS K C) := ok_strS FSr T.toTxtS T.str
  refine F.okX sc__law_like (fun vs H Q E h => ?_) (fun cdv A outer s H vs Q E hr h => ?_)
  · obtain ⟨o, p, c, t, z, gs, es, n, rfl, _⟩ := h
    rfl
  · obtain ⟨o, p, c, t, z, gs, es, n, rfl, ⟨es0, hu0, hm0, hSh⟩, hS, hg, hes, hel0, hel, hz1, hz3, hgl, hp, hn, k⟩ := h
    have hu := hu_of hr
    have passL : Passes (L2.CX P w) (cxOf (L2.CX P w) P w K mg base N__law_like "_law_like" (defScope s__law_like) f cdv A outer s H E) E := passes_call (takes_of rfl rfl rfl rfl) (fun _ _ _ _ h => h)
    refine ⟨_, (pss_cons (ps_asg (pv 1) (pg_tup (by rfl) (pgs_cons (pg_name (i := 3) sc__law_like.nd rfl (Or.inr rfl)) (pgs_cons (pg_name (i := 4) sc__law_like.nd rfl (Or.inl rfl)) (pgs_cons (pg_name (i := 5) sc__law_like.nd rfl (Or.inr rfl)) pgs_nil)))))
      (pss_cons (ps_if (pt_not (pt_cmpR (op_ownI (op := .Eq) (fun _ _ => rfl) T.eqs T.eqf GEq (hr.mono (by decide)) bEq pass0) (pv 0) (pe_make MShape GShape (hr.mono (by decide)) (by rfl) T.mgShape bShape .nil passL (pa_cons (pv 3) (pa_cons (pe_callTy call_tuple_of (by rfl) T.tuple boot_tuple (pa_cons (pe_lc (own := [("_law_row", 12)]) (g := gName 12) (by rfl) sc__law_like.nd (pi_seq (K := K) rfl (pv 4)) (blkOk_by (own := [("_law_row", 12)]) (N := N__law_like) (sc := defScope s__law_like) (by decide +kernel)) (fun _ _ _ _ _ => pg_name (i := 12) sc__law_like.nd rfl (Or.inl rfl)) (fun _ _ _ _ _ => pts_nil) (fun _ _ _ _ _ => (pe_callTy (call_tupleK (K := K) rfl) (by rfl) T.tuple boot_tuple (pa_cons (pv 12) pa_nil)))) pa_nil)) (pa_cons (pe_op op_cat (pe_revL (pv 5)) (pv 5)) pa_nil)))) (nomark _))) (pss_one (ps_ret pe_bl)) pss_nil)
      (pss_cons (ps_par (i := 6) (j := 7) (by rfl) sc__law_like.nd rfl rfl (by decide) rfl rfl (pa_cons (pe_call G_law_draw (hr.mono (by decide)) (by rfl) T.m_law_draw T.k_law_draw b_law_draw .nil pass0 (pa_cons (pv 2) (pa_cons (pe_callB call_len (by rfl) T.len PySem.boot_len (pa_cons (pv 4) pa_nil)) pa_nil))) (pa_cons (pe_call G_law_draw (hr.mono (by decide)) (by rfl) T.m_law_draw T.k_law_draw b_law_draw .nil pass0 (pa_cons (pv 2) (pa_cons (pe_callB call_len (by rfl) T.len PySem.boot_len (pa_cons (pv 3) pa_nil)) pa_nil))) pa_nil)) (by rfl))
      (pss_cons (ps_set (i := 8) sc__law_like.nd rfl (Or.inl rfl) (pe_op op_modN (pe_callTy call_int1 (by rfl) T.int boot_int (pa_cons (pe_op op_add (pe_ix ix_list (pe_ix ix_list (pv 4) (pv 6) (fun _ _ => rfl)) (pv 7) (fun _ _ => rfl)) pe_int) pa_nil)) (pe_callB call_len (by rfl) T.len PySem.boot_len (pa_cons (pv 4) pa_nil))))
      (pss_cons (ps_setLc (i := 9) (own := [("_law_row", 12)]) (g := gName 12) (by rfl) sc__law_like.nd rfl rfl (sw_true rfl rfl rfl (by decide +kernel)) (pi_seq (K := K) rfl (pv 4)) (blkOk_by (own := [("_law_row", 12)]) (N := N__law_like) (sc := defScope s__law_like) (by decide +kernel)) (fun _ _ _ _ _ => pg_name (i := 12) sc__law_like.nd rfl (Or.inl rfl)) (fun _ _ _ _ _ => pts_nil) (fun _ _ _ _ _ => (pe_callTy (call_listK (K := K) rfl) (by rfl) T.list boot_list (pa_cons (pv 12) pa_nil))))
      (pss_cons (ps_asg (pv 8) (pg_sub (pe_ix ix_list (pv 9) (pv 6) (fun _ _ => rfl)) (pv 7) set_list))
      (pss_cons (ps_if (pt_cmpR op_ne (pe_cmpR (op_ownI (op := .Eq) (fun _ _ => rfl) T.eqs T.eqf GEq (hr.mono (by decide)) bEq pass0) (pv 0) (pe_make MShape GShape (hr.mono (by decide)) (by rfl) T.mgShape bShape .nil passL (pa_cons (pv 3) (pa_cons (pv 9) (pa_cons (pv 5) pa_nil)))) (nomark _)) (pe_cmpR op_eq (pv 8) (pe_ix ix_list (pe_ix ix_list (pv 4) (pv 6) (fun _ _ => rfl)) (pv 7) (fun _ _ => rfl)) (nomark _)) (nomark _)) (pss_one (ps_ret pe_bl)) pss_nil)
      (pss_cons (ps_setLc (i := 10) (own := [("_law_one", 13)]) (g := gName 13) (by rfl) sc__law_like.nd rfl rfl (sw_true rfl rfl rfl (by decide +kernel)) (pi_seq (K := K) rfl (pv 5)) (blkOk_by (own := [("_law_one", 13)]) (N := N__law_like) (sc := defScope s__law_like) (by decide +kernel)) (fun _ _ _ _ _ => pg_name (i := 13) sc__law_like.nd rfl (Or.inl rfl)) (fun _ _ _ _ _ => (pts_one (pt_cmpR op_ne (pv 13) (pe_ix (ix_listK (K := K) rfl) (pv 5) pe_int (fun _ _ => rfl)) (nomark _)))) (fun _ _ _ _ _ => (pv 13)))
      (pss_cons (ps_set (i := 11) sc__law_like.nd rfl (Or.inl rfl) (pe_join pe_str (pe_slice sl_list (pe_lc (own := [("_law_sign", 14)]) (g := gName 14) (by rfl) sc__law_like.nd (pi_str pe_str) (blkOk_by (own := [("_law_sign", 14)]) (N := N__law_like) (sc := defScope s__law_like) (by decide +kernel)) (fun _ _ _ _ _ => pg_name (i := 14) sc__law_like.nd rfl (Or.inl rfl)) (fun _ _ _ _ _ => (pts_one (pt_cmpR op_ne (pv 14) (pe_ix ix_str (pv 3) pe_int (fun _ _ => rfl)) (nomark _)))) (fun _ _ _ _ _ => (pv 14))) po_none (po_some (pe_callB call_len (by rfl) T.len PySem.boot_len (pa_cons (pv 3) pa_nil))))))
      (pss_cons (ps_if (PW.pt (pw_or (pt_cmpR (op_ownI (op := .Eq) (fun _ _ => rfl) T.eqs T.eqf GEq (hr.mono (by decide)) bEq pass0) (pv 0) (pe_make MShape GShape (hr.mono (by decide)) (by rfl) T.mgShape bShape .nil passL (pa_cons (pv 3) (pa_cons (pv 4) (pa_cons (pv 10) pa_nil)))) (nomark _)) (pw_or1 (pt_cmpR (op_ownI (op := .Eq) (fun _ _ => rfl) T.eqs T.eqf GEq (hr.mono (by decide)) bEq pass0) (pv 0) (pe_make MShape GShape (hr.mono (by decide)) (by rfl) T.mgShape bShape .nil passL (pa_cons (pv 11) (pa_cons (pv 4) (pa_cons (pv 5) pa_nil)))) (nomark _))))) (pss_one (ps_ret pe_bl)) pss_nil)
      (pss_one (ps_ret (pe_and (pe_not (pe_cmpR (op_ownT (op := .Eq) (fun _ _ => rfl) T.eqs T.eqf GEqO (hr.mono (by decide)) bEq pass0 T.ht) (pv 0) (pv 1) (nomark _))) (pe_and (pe_not (pe_cmpR (op_ownS (op := .Eq) (fun _ _ => rfl) T.eqs T.eqf GEqO (hr.mono (by decide)) bEq pass0 T.hs) (pv 0) (pe_callTy (call_strI T.srs T.srf GSr (hr.mono (by decide)) bSr pass0) (by rfl) T.str boot_str (pa_cons (pv 0) pa_nil)) (nomark _))) (pe_one (pe_not (pe_cmpR (op_ownI (op := .Eq) (fun _ _ => rfl) T.eqs T.eqf GEq (hr.mono (by decide)) bEq pass0) (pv 0) (pe_make MShape GShape (hr.mono (by decide)) (by rfl) T.mgShape bShape .nil passL (pa_cons (pv 3) (pa_cons (pe_op op_cat (pv 4) (pe_lst (pa_cons (pe_ix ix_list (pv 4) pe_int (fun _ _ => rfl)) pa_nil))) (pa_cons (pv 5) pa_nil)))) (nomark _)))))))))))))))))), ?_⟩
    obtain ⟨R, G, rs0, ht, hR, hrs, hG⟩ := id hS
    have lr : rs0.length = gs.length := hrs.1
    have hzs : z.length ≤ sizeLine := Nat.le_of_lt (small1000 (by omega))
    have hM0 : MadeAt K C H o z gs es := ⟨es0, hu0, hm0, hSh⟩
    refine ⟨_, rfl, t, _, rfl, SqT.of ht, rfl, _, _, rfl, _, _, rfl, _, _, rfl, rfl, ?_⟩
    refine ⟨_, rfl, _, rfl, _, rfl, R, _, rfl, Or.inl (SqL.of hR), fun J hJ D hD => lc_it hJ (fun i H4 => ∃ vs : List V, H4 D = some (.lst vs) ∧ DpAll K (L2.del H4 D) vs ((gs.take i).map intsT) ∧ Same H H4)
      ⟨[], upd_same, .nil, same_new hD⟩ (fun i H4 _ ⟨_, _, _, s4⟩ => GSq.same s4) ?_ ?_⟩
    · rintro i x H4' H4 hi ⟨vs, hD4, hd4, s4⟩ ⟨rfl, hx⟩
      rw [List.length_map] at hi
      have hi' : i < gs.length := by omega
      obtain rfl : V.ref (rs0[i]) = x := by
        rw [List.getElem?_map, List.getElem?_eq_getElem hi] at hx
        exact Option.some.inj hx
      have hrow := s4 _ _ (hrs.2 i _ _ (List.getElem?_eq_getElem hi) (List.getElem?_eq_getElem hi'))
      refine ⟨rfl, ?_⟩
      refine lcYes ?_
      have hvl : vs.length < sizeLine := by rw [hd4.length, List.length_map, List.length_take]; exact small1000 (by omega)
      refine ⟨_, rfl, rs0[i], _, rfl, Or.inl ⟨SqL.of hrow, fun q hq => ⟨vs, same_new hq _ _ hD4, hvl, vs ++ [.ref q], upd_same, ?_, (s4.trans (same_new hq)).put hD⟩⟩⟩
      have nqD : q ≠ D := (ne_of_none hD4 hq).symm
      have e0 : Kl (L2.del H4 D) (L2.del (L2.upd (L2.upd H4 q (.tup (gs[i].map V.int))) D (.lst (vs ++ [.ref q]))) D) := fun b o e _ => by
        obtain ⟨h1, h2⟩ := del_some e
        rw [del_ne h1, upd_ne h1, upd_ne (ne_of_none h2 hq)]
        exact h2
      rw [take_more hi', List.map_append]
      refine (hd4.mv e0).snoc (.tup (xs := gs[i].map V.int) (SqT.of ?_) (dpAll_ints K _ _))
      rw [del_ne nqD, upd_ne nqD, upd_same]
    rintro H4 ⟨vs, hD4, hd4, s4⟩
    rw [List.length_map, lr, List.take_length] at hd4
    refine ⟨D, vs, rfl, Or.inl ⟨SqL.of hD4, fun q hq => ?_⟩⟩
    have s5 : Same H (L2.upd H4 q (.tup vs)) := s4.trans (same_new hq)
    have hT : Dp K (L2.upd H4 q (.tup vs)) (.ref q) (rowsIT gs) := .tup (SqT.of upd_same) (hd4.mv ((Kl.undel _ _).trans (Kl.same (same_new hq))))
    generalize L2.upd H4 q (.tup vs) = H5 at s5 hT ⊢
    refine ⟨_, rfl, G, _, rfl, SqL.of (s5 _ _ hG), fun A1 hA1 => ?_⟩
    rw [← List.map_reverse]
    have s6 := s5.trans (same_new (o := .lst (es.reverse.map V.int)) hA1)
    refine ⟨_, rfl, A1, G, _, _, rfl, rfl, upd_same, s6 _ _ hG, Nat.le_of_lt (small1000 (by rw [List.length_map, List.length_map, List.length_reverse]; omega)), fun A2 hA2 => ?_⟩
    rw [← List.map_append]
    have s7 := s6.trans (same_new (o := .lst ((es.reverse ++ es).map V.int)) hA2)
    refine fun x dx hx hdx ne => mk_ok hx hdx ne (Or.inr (hT.mv (Kl.same ((same_new hA1).trans (same_new hA2))))) upd_same hg (fun e he => hes e (by rcases List.mem_append.mp he with h | h <;> simpa using h)) (by omega) (by omega) (by rw [List.length_append, List.length_reverse]; omega) (fun H8 s8 hM => ⟨rfl, eq_ok (hM0.same (s7.trans s8)) hM true ⟨fun _ => ⟨rfl, rfl, fun x => by simp⟩, fun _ => rfl⟩ fun H9 s9 => ⟨_, rfl, ite2 (fun c => absurd c (by decide)) (fun _ => ?_)⟩⟩)
    have s10 := (s7.trans s8).trans s9
    clear s9 hM s8 s7 s6 s5 s4 hT hd4 hD4
    have hp9 := hp.same s10
    have hgp : 0 < gs.length := hg.2
    obtain ⟨kv0, hk0⟩ := id hp.dk
    refine ⟨_, rfl, _, rfl, _, _, rfl, Or.inl ⟨_, SqL.of (s10 _ _ hR), rfl⟩, p, c, _, n, rfl, hp9, by omega, by rw [List.length_map]; omega, by rw [List.length_map]; omega, fun sv H10 s0 s1 hp10 k10 => ?_⟩
    rw [List.length_map, lr] at s1
    refine ⟨_, rfl, _, rfl, _, _, rfl, ⟨hzs, rfl⟩, p, c, _, _, rfl, hp10, by omega, by omega, by omega, fun av H11 a0 a1 hp11 k11 => ⟨_, _, rfl, ?_⟩⟩
    obtain ⟨sn, rfl⟩ : ∃ sn : Nat, sv = sn := ⟨sv.toNat, by omega⟩
    obtain ⟨an, rfl⟩ : ∃ an : Nat, av = an := ⟨av.toNat, by omega⟩
    have hsn : sn < gs.length := by omega
    have hsr : sn < rs0.length := by omega
    obtain ⟨grl, grg⟩ := good_row hg hsn
    have han : an < gs[sn].length := by omega
    have k011 : Kp p H H11 := (Kp.of s10).trans (k10.trans k11)
    have keep : ∀ {b : Addr} {o : HO}, H b = some o → b ≠ p → H11 b = some o := fun e n => k011 _ _ e n
    have hRp : R ≠ p := ne_of hR hk0 (fun z => nomatch z)
    have hGp : G ≠ p := ne_of hG hk0 (fun z => nomatch z)
    have htp : t ≠ p := ne_of ht hk0 (fun z => nomatch z)
    have hR11 := keep hR hRp
    have hG11 := keep hG hGp
    have ht11 := keep ht htp
    have hrs11 : Forall2 (fun (r : Addr) (row : List Int) => H11 r = some (.lst (row.map V.int))) rs0 gs := hrs.imp fun x y _ h => keep h (ne_of h hk0 (fun z => nomatch z))
    have hM11 := hM0.kp k011 hk0
    clear keep s10 k10 k11 hp9 hp10
    have hrow := hrs11.2 sn _ _ (List.getElem?_eq_getElem hsr) (List.getElem?_eq_getElem hsn)
    have at1 : atI (rs0.map V.ref) (sn : Int) = some (.ref rs0[sn]) := atI_nat (by rw [List.getElem?_map, List.getElem?_eq_getElem hsr]; rfl)
    have at2 : atI (gs[sn].map V.int) (an : Int) = some (.int gs[sn][an]) := atI_nat (by rw [List.getElem?_map, List.getElem?_eq_getElem han]; rfl)
    obtain ⟨gg0, gg1⟩ := grg _ (List.getElem_mem han)
    have ec : (rs0.map V.ref).length = gs.length := by rw [List.length_map]; exact lr
    refine ⟨_, rfl, _, rfl, R, _, _, .ref rs0[sn], rfl, rfl, SqL.of hR11, at1, _, rfl, rs0[sn], _, _, .int gs[sn][an], rfl, rfl, SqL.of hrow, at2, _, _, rfl, rfl, Or.inl ⟨_, rfl, _, rfl, _, _, rfl, Or.inl ⟨_, SqL.of hR11, rfl⟩, _, _, rfl, rfl, by rw [ec]; omega, ?_⟩⟩
    rw [ec]
    dsimp only
    have hv0 : 0 ≤ (gs[sn][an] + 1).fmod (gs.length : Int) := Int.fmod_nonneg_of_pos _ (by omega)
    have hv1 : (gs[sn][an] + 1).fmod (gs.length : Int) < (gs.length : Int) := Int.fmod_lt_of_pos _ (by omega)
    generalize (gs[sn][an] + 1).fmod (gs.length : Int) = goal at hv0 hv1 ⊢
    refine ⟨_, rfl, R, _, rfl, Or.inl (SqL.of hR11), fun J2 hJ2 D hD => lc_it hJ2 (fun i H4 => ∃ rs : List Addr, H4 D = some (.lst (rs.map V.ref)) ∧ Forall2 (fun (r : Addr) (row : List Int) => H4 r = some (.lst (row.map V.int))) rs (gs.take i) ∧ (∀ r ∈ rs, r ≠ D) ∧ (∀ r ∈ rs, H11 r = none) ∧ rs.Nodup ∧ Same H11 H4)
      ⟨[], upd_same, ⟨rfl, fun i x y e1 e2 => nomatch e1⟩, (fun r hr => nomatch hr), (fun r hr => nomatch hr), List.nodup_nil, same_new hD⟩ (fun i H4 _ ⟨_, _, _, _, _, _, s4⟩ => GSq.same s4) ?_ ?_⟩
    · rintro i x H4' H4 hi ⟨rs, hD4, hf, hne, hnw, hnd, s4⟩ ⟨rfl, hx⟩
      rw [List.length_map] at hi
      have hi' : i < gs.length := by omega
      obtain rfl : V.ref (rs0[i]) = x := by
        rw [List.getElem?_map, List.getElem?_eq_getElem hi] at hx
        exact Option.some.inj hx
      have hrow4 := s4 _ _ (hrs11.2 i _ _ (List.getElem?_eq_getElem hi) (List.getElem?_eq_getElem hi'))
      refine ⟨rfl, ?_⟩
      refine lcYes ?_
      have lrs : rs.length = i := by rw [hf.1, List.length_take]; omega
      refine ⟨_, rfl, rs0[i], _, rfl, Or.inl (SqL.of hrow4), fun q hq => ?_⟩
      have nqD : q ≠ D := (ne_of_none hD4 hq).symm
      have hq11 : H11 q = none := s4.free hq
      have hqr : ∀ r ∈ rs, r ≠ q := fun r hr e => by
        obtain ⟨j, hj, rfl⟩ := List.getElem_of_mem hr
        have h1 := hf.2 j _ _ (List.getElem?_eq_getElem hj) (List.getElem?_eq_getElem (by rw [← hf.1]; exact hj))
        rw [e, hq] at h1
        cases h1
      refine ⟨_, same_new hq _ _ hD4, by rw [List.length_map]; exact small1000 (by omega), rs ++ [q], by rw [upd_same, List.map_append]; rfl, ?_, fun r hr => ?_, fun r hr => ?_, ?_, (s4.trans (same_new hq)).put hD⟩
      · rw [take_more hi']
        refine Forall2.snoc ⟨hf.1, fun j x y e1 e2 => ?_⟩ (by rw [upd_ne nqD, upd_same])
        show L2.upd _ D _ x = _
        rw [upd_ne (hne x (List.mem_of_getElem? e1))]
        exact same_new hq _ _ (hf.2 j x y e1 e2)
      · rcases List.mem_append.mp hr with h | h
        · exact hne r h
        · rw [List.mem_singleton.mp h]; exact nqD
      · rcases List.mem_append.mp hr with h | h
        · exact hnw r h
        · rw [List.mem_singleton.mp h]; exact hq11
      · refine List.nodup_append.mpr ⟨hnd, List.pairwise_singleton _ _, fun a ha b hb => ?_⟩
        rw [List.mem_singleton.mp hb]
        exact hqr a ha
    · rintro H12 ⟨rs, hD12, hf, hne, hnw, hnd, s12⟩
      rw [List.length_map, lr, List.take_length] at hf
      have hsr2 : sn < rs.length := by rw [hf.1]; exact hsn
      have hrow12 := hf.2 sn _ _ (List.getElem?_eq_getElem hsr2) (List.getElem?_eq_getElem hsn)
      have hq0 := hnw _ (List.getElem_mem hsr2)
      refine ⟨_, rfl, _, rfl, _, rfl, D, _, _, .ref rs[sn], rfl, rfl, SqL.of hD12, atI_nat (by rw [List.getElem?_map, List.getElem?_eq_getElem hsr2]; rfl), _, rfl, rs[sn], _, _, an, rfl, rfl, hrow12, ixN_nat (by rw [List.length_map]; exact han), ?_⟩
      have s13 : Same H11 (L2.upd H12 rs[sn] (.lst ((gs[sn].map V.int).set an (.int goal)))) := s12.put hq0
      have hT13 : RowsM (L2.upd H12 rs[sn] (.lst ((gs[sn].map V.int).set an (.int goal)))) D (gs.set sn (gs[sn].set an goal)) := by
        refine ⟨rs, by rw [upd_ne (hne _ (List.getElem_mem hsr2)).symm]; exact hD12, ⟨by rw [List.length_set]; exact hf.1, fun j x y e1 e2 => ?_⟩, hne⟩
        show L2.upd _ _ _ x = _
        by_cases e : sn = j
        · subst e
          rw [List.getElem?_eq_getElem hsr2] at e1
          rw [List.getElem?_set_self hsn] at e2
          obtain rfl := Option.some.inj e1
          obtain rfl := Option.some.inj e2
          rw [upd_same, List.map_set]
        · rw [List.getElem?_set_ne e] at e2
          have hx : x ≠ rs[sn] := fun q => by
            obtain ⟨hj, hjx⟩ := List.getElem?_eq_some_iff.mp e1
            rcases Nat.lt_or_gt_of_ne e with h | h
            · exact List.pairwise_iff_getElem.mp hnd sn j hsr2 hj h (by rw [hjx, q])
            · exact List.pairwise_iff_getElem.mp hnd j sn hj hsr2 h (by rw [hjx, q])
          rw [upd_ne hx]
          exact hf.2 j x y e1 e2
      generalize L2.upd H12 rs[sn] (.lst ((gs[sn].map V.int).set an (.int goal))) = H13 at s13 hT13 ⊢
      clear hf hne hnw hnd s12 hD12 hrow12 hq0
      have hgs := good_set (a := an) hg hsn hv0 hv1
      have hM13 := hM11.same s13
      have hR13 := s13 _ _ hR11
      have hG13 := s13 _ _ hG11
      have ht13 := s13 _ _ ht11
      have hrow13 := s13 _ _ hrow
      have hp13 := hp11.same s13
      have k013 : Kp p H H13 := k011.trans (Kp.of s13)
      refine ⟨_, rfl, _, rfl, _, rfl, _, rfl, fun x dx hx hdx ne => mk_ok hx hdx ne (Or.inl hT13.dp) hG13 hgs (by rw [List.length_set]; exact hes) (by omega) (by rw [List.length_set]; omega) (by omega) (fun H14 s14 hM => ⟨rfl, eq_ok (hM13.same s14) hM (decide (goal = gs[sn][an])) ⟨fun h => ⟨rfl, (set_same hsn han).mpr (of_decide_eq_true h), fun _ => Iff.rfl⟩, fun h => decide_eq_true ((set_same hsn han).mp h.2.1)⟩ fun H15 s15 => ?_⟩)⟩
      have s5 := s14.trans s15
      refine ⟨_, rfl, _, rfl, _, rfl, R, _, _, .ref rs0[sn], rfl, rfl, SqL.of (s5 _ _ hR13), at1, _, rfl, rs0[sn], _, _, .int gs[sn][an], rfl, rfl, SqL.of (s5 _ _ hrow13), at2, rfl, rfl, _, rfl, ite2 (fun c => absurd c ?_) (fun _ => ?_)⟩
      · simp
      have hM15 := hM13.same s5
      have hR15 := s5 _ _ hR13
      have hG15 := s5 _ _ hG13
      have ht15 := s5 _ _ ht13
      have hS15 : RwsI K H15 (.ref R) gs := Or.inl (Dp.lst (SqL.of hR15) (dpAll_gs hrs.1 fun i r row h1 h2 => s5 _ _ (s13 _ _ (hrs11.2 i r row h1 h2))))
      have hp15 := hp13.same s5
      have k015 : Kp p H H15 := k013.trans (Kp.of s5)
      have hrow0 : H15 rs0[0] = some (.lst ((gs[0]'hgp).map V.int)) := s5 _ _ (s13 _ _ (hrs11.2 0 _ _ (List.getElem?_eq_getElem (by omega)) (List.getElem?_eq_getElem hgp)))
      have hrs15 : Forall2 (fun (r : Addr) (row : List Int) => H15 r = some (.lst (row.map V.int))) rs0 gs := hrs11.imp fun x y _ h => s5 _ _ (s13 _ _ h)
      clear s5 s15 hM s14 hM13 hR13 hG13 ht13 hrow13 hp13 k013 hT13 s13 hM11 hR11 hG11 ht11 hrow k011 hx hdx ne
      obtain ⟨e0, he0⟩ : ∃ e0, es[0]? = some e0 := ⟨_, List.getElem?_eq_getElem hel0⟩
      have he0m : e0 ∈ es := List.mem_of_getElem? he0
      have atE : atI (es.map V.int) 0 = some (.int e0) := at_of' (show (0 : Int) = ((0 : Nat) : Int) from rfl) (by rw [List.getElem?_map, he0]; rfl)
      refine ⟨_, rfl, G, _, rfl, Or.inl (SqL.of hG15), fun J3 hJ3 D3 hD3 => lc_it hJ3 (fun i H4 => H4 D3 = some (.lst (((es.take i).filter (neI e0)).map V.int)) ∧ Same H15 H4) ⟨upd_same, same_new hD3⟩ (fun i H4 _ ⟨_, s4⟩ => GSq.same s4) ?_ ?_⟩
      · rintro i x H2 H1 hi ⟨hD1, s1⟩ ⟨rfl, hx⟩
        rw [List.length_map] at hi
        obtain rfl : V.int (es[i]) = x := by
          rw [List.getElem?_map, List.getElem?_eq_getElem hi] at hx
          exact Option.some.inj hx
        have hlen : (((es.take i).filter (neI e0)).map V.int).length < sizeLine := by
          rw [List.length_map]
          have h1 := List.length_filter_le (neI e0) (es.take i)
          rw [List.length_take] at h1
          exact small1000 (by omega)
        refine ⟨rfl, ?_⟩
        refine ⟨_, rfl, _, rfl, G, _, 0, .int e0, rfl, rfl, SqL.of (s1 _ _ hG15), atE, rfl, _, rfl, ite2 (fun c => ?_) (fun c => ?_)⟩
        · have c : es[i] ≠ e0 := by simpa using c
          refine ⟨_, rfl, _, hD1, hlen, ?_, s1.put hD3⟩
          rw [upd_same, take_more hi, List.filter_append, List.filter_cons_of_pos (neI_t c), List.filter_nil, List.map_append]; rfl
        · have c : es[i] = e0 := by simpa using c
          refine ⟨?_, s1⟩
          rw [take_more hi, List.filter_append, List.filter_cons_of_neg (neI_f c), List.filter_nil, List.append_nil]
          exact hD1
      rintro H16 ⟨hD16, s16⟩
      rw [List.length_map, List.take_length] at hD16
      have hzp : 0 < (TL.tl z).length := by rw [← TL.len_tl]; omega
      obtain ⟨z0, hz0⟩ : ∃ z0, (TL.tl z)[0]? = some z0 := ⟨_, List.getElem?_eq_getElem hzp⟩
      refine ⟨⟨_, rfl⟩, "abcd", rfl, fun D4 hD4 => lc_it walk_strS (fun j H5 => H5 D4 = some (.lst (((((TL.tl "abcd").take j).filter (neN z0)).map sg).map V.str)) ∧ Same H16 H5) ⟨upd_same, same_new hD4⟩ (fun _ _ _ _ => trivial) ?_ ?_⟩
      · rintro j x H2 H1 hj ⟨hD1, s1⟩ ⟨rfl, cc, hcc, rfl⟩
        obtain ⟨hjl, hje⟩ := List.getElem?_eq_some_iff.mp hcc
        have h4 : (TL.tl "abcd").length = 4 := by decide +kernel
        have hlen : (((((TL.tl "abcd").take j).filter (neN z0)).map sg).map V.str).length < sizeLine := by
          rw [List.length_map, List.length_map]
          have h1 := List.length_filter_le (neN z0) ((TL.tl "abcd").take j)
          rw [List.length_take] at h1
          exact small1000 (by omega)
        refine ⟨rfl, ?_⟩
        refine ⟨_, rfl, _, rfl, z, 0, z0, rfl, rfl, hzs, at_of' (show (0 : Int) = ((0 : Nat) : Int) from rfl) hz0, rfl, _, rfl, ite2 (fun c => ?_) (fun c => ?_)⟩
        · have c : cc ≠ z0 := fun q => by subst q; simp at c; exact c rfl
          refine ⟨_, rfl, _, hD1, hlen, ?_, s1.put hD4⟩
          rw [upd_same, take_more hjl, hje, List.filter_append, List.filter_cons_of_pos (neN_t c), List.filter_nil, List.map_append, List.map_append]; rfl
        · have c : cc = z0 := Classical.byContradiction fun q => by
            have q2 : sg cc ≠ sg z0 := fun e => q (sg_inj e)
            simp at c
            exact q2 c
          refine ⟨?_, s1⟩
          rw [take_more hjl, hje, List.filter_append, List.filter_cons_of_neg (neN_f c), List.filter_nil, List.append_nil]
          exact hD1
      rintro H17 ⟨hD17, s17⟩
      rw [TL.len_tl, List.take_length] at hD17
      refine ⟨_, rfl, _, _, rfl, ⟨hzs, rfl⟩, _, rfl, D4, _, rfl, SqL.of hD17, fun A5 hA5 => ?_⟩
      rw [cutV_toN]
      rw [← List.map_take, ← List.map_take]
      have hol := abcd_len z0 z.length hz3
      have hom : z0 ∉ ((TL.tl "abcd").filter (neN z0)).take z.length := fun q => neN_f rfl (List.mem_filter.mp (List.mem_of_mem_take q)).2
      generalize ((TL.tl "abcd").filter (neN z0)).take z.length = os at hol hom ⊢
      have hz0m : z0 ∈ TL.tl z := List.mem_of_getElem? hz0
      have hsum : ((os.map sg).map (·.length)).sum ≤ 100 := by
        have h1 := sum_le (ys := os.map sg) (B := 1) fun y hy => by
          obtain ⟨c, _, rfl⟩ := List.mem_map.mp hy
          exact Nat.le_refl _
        rw [List.length_map] at h1
        omega
      refine ⟨_, A5, os.map sg, rfl, rfl, Or.inl (SqL.of upd_same), ?_, ?_⟩
      · have e0 : ("" : Str).length = 0 := by decide +kernel
        rw [e0, Nat.mul_zero, Nat.add_zero]
        exact Nat.le_trans hsum (by decide)
      have ex : TL.tl (Txt.join "" (os.map sg)) = os := join_sg os
      have hxl : (Txt.join "" (os.map sg)).length = z.length := by rw [TL.len_tl, ex]; exact hol
      have hzx : z ≠ Txt.join "" (os.map sg) := fun q => by
        rw [q, ex] at hz0m
        exact hom hz0m
      change gName 11 (V.str (Txt.join "" (os.map sg))) _ _ _
      generalize Txt.join "" (os.map sg) = xx at ex hxl hzx ⊢
      have s18 : Same H15 (L2.upd H17 A5 (.lst ((os.map sg).map V.str))) := (s16.trans s17).trans (same_new hA5)
      have hD18 : (L2.upd H17 A5 (.lst ((os.map sg).map V.str))) D3 = some (.lst ((es.filter (neI e0)).map V.int)) := same_new hA5 _ _ (s17 _ _ hD16)
      generalize L2.upd H17 A5 (.lst ((os.map sg).map V.str)) = H18 at s18 hD18 ⊢
      clear s16 s17 hD17 hA5 hsum hol hom
      have hrl : ∀ e ∈ es.filter (neI e0), 0 ≤ e ∧ e < (gs.length : Nat) := fun e he => hes e (List.mem_filter.mp he).1
      have hrn : (es.filter (neI e0)).length ≤ 20 := Nat.le_trans (List.length_filter_le _ _) hel
      have hdif : ¬ ∀ x, x ∈ es ↔ x ∈ es.filter (neI e0) := fun q => neI_f rfl (List.mem_filter.mp ((q e0).mp he0m)).2
      have hM18 := hM15.same s18
      have hS18 : RwsI K H18 (.ref R) gs := hS15.mv (Kl.same s18)
      have hG18 := s18 _ _ hG15
      refine ⟨_, rfl, _, rfl, _, rfl, _, rfl, fun x dx hx hdx ne => mk_ok hx hdx ne hS18 hD18 hg hrl (by omega) (by omega) (by omega) (fun H19 s19 hM => ⟨rfl, eq_ok (hM18.same s19) hM false ⟨fun h => Bool.noConfusion h, fun h => absurd h.2.2 hdif⟩ fun H20 s20 => ⟨_, rfl, ite2 (fun c => absurd c (by decide)) (fun _ => ?_)⟩⟩)⟩
      have s21 := s19.trans s20
      have hS20 : RwsI K H20 (.ref R) gs := hS18.mv (Kl.same s21)
      refine ⟨_, rfl, _, rfl, _, rfl, _, rfl, fun x dx hx hdx ne => mk_ok hx hdx ne hS20 (s21 _ _ hG18) (by rw [hxl]; exact hg) hes (by omega) (by omega) (by omega) (fun H22 s22 hM2 => ⟨rfl, eq_ok (hM18.same (s21.trans s22)) hM2 false ⟨fun h => Bool.noConfusion h, fun h => absurd h.1 hzx⟩ fun H23 s23 => ⟨_, rfl, ite2 (fun c => absurd c (by decide)) (fun _ => ?_)⟩⟩)⟩
      have s24 : Same H15 H23 := ((s18.trans s21).trans s22).trans s23
      have hM23 := hM15.same s24
      clear hM hM2 s23 s22 s21 s20 s19 hS20 hS18 hG18 hM18 hD18
      refine ⟨_, rfl, _, rfl, eqO_t hM23 (s24 _ _ ht15) fun H25 s25 => ⟨_, rfl, _, rfl, ite2 (fun _ => ?_) (fun c => absurd rfl c)⟩⟩
      refine ⟨_, rfl, _, rfl, ?_⟩
      dsimp only [tNil]
      refine str_ok (hM23.same s25) hg (by omega) (by omega) (by omega) fun y H26 s26 => ?_
      refine eqO_s ((hM23.same s25).same s26) fun H27 s27 => ⟨_, rfl, _, rfl, ite2 (fun _ => ?_) (fun c => absurd rfl c)⟩
      have s28 : Same H15 H27 := ((s24.trans s25).trans s26).trans s27
      refine ⟨_, rfl, _, rfl, _, rfl, _, rfl, R, _, 0, .ref (rs0[0]'(by omega)), rfl, rfl, SqL.of (s28 _ _ hR15), at_of' (show (0 : Int) = ((0 : Nat) : Int) from rfl) (by rw [List.getElem?_map, List.getElem?_eq_getElem (by omega)]; rfl), by show 1 ≤ sizeLine; decide, fun A hA => ⟨R, A, _, _, rfl, rfl, same_new hA _ _ (s28 _ _ hR15), upd_same, Nat.le_of_lt (small1000 (by rw [List.length_map]; show rs0.length + 1 ≤ 1000; omega)), fun A2 hA2 => ?_⟩⟩
      have s29 : Same H27 (L2.upd (L2.upd H27 A (.lst [.ref (rs0[0]'(by omega))])) A2 (.lst (rs0.map V.ref ++ [.ref (rs0[0]'(by omega))]))) := (same_new hA).trans (same_new hA2)
      have hA29 : (L2.upd (L2.upd H27 A (.lst [.ref (rs0[0]'(by omega))])) A2 (.lst (rs0.map V.ref ++ [.ref (rs0[0]'(by omega))]))) A2 = some (.lst (rs0.map V.ref ++ [.ref (rs0[0]'(by omega))])) := upd_same
      generalize L2.upd (L2.upd H27 A (.lst [.ref (rs0[0]'(by omega))])) A2 (.lst (rs0.map V.ref ++ [.ref (rs0[0]'(by omega))])) = H29 at s29 hA29 ⊢
      have s31 := s28.trans s29
      have hrs29 : Forall2 (fun (r : Addr) (row : List Int) => H29 r = some (.lst (row.map V.int))) rs0 gs := hrs15.imp fun x y _ h => s31 _ _ h
      have hrs30 := hrs29.snoc (s31 _ _ hrow0)
      have hA' : H29 A2 = some (.lst ((rs0 ++ [rs0[0]'(by omega)]).map V.ref)) := by rw [hA29, List.map_append]; rfl
      have hD29 : Dp K H29 (.ref A2) (rowsID (gs ++ [gs[0]'hgp])) := Dp.lst (SqL.of hA') (dpAll_gs hrs30.1 fun i r row h1 h2 => hrs30.2 i r row h1 h2)
      have hlen : (gs ++ [gs[0]'hgp]).length = gs.length + 1 := by rw [List.length_append]; rfl
      refine ⟨_, rfl, fun x dx hx hdx ne => mk_ok hx hdx ne (Or.inl hD29) (s31 _ _ hG15) (good_more hg) (fun e he => by obtain ⟨h1, h2⟩ := hes e he; rw [hlen]; exact ⟨h1, by omega⟩) (by omega) (by omega) (by omega) (fun H32 s32 hM => ⟨rfl, eq_ok ((hM15.same s31).same s32) hM false ⟨fun h => Bool.noConfusion h, fun h => ?_⟩ fun H33 s33 => ⟨_, rfl, k H33 ?_ ?_⟩⟩)⟩
      · have h2 := congrArg List.length h.2.1
        omega
      · exact (((hp15.same s31).same s32).same s33).mono (by omega)
      · exact k015.trans (Kp.of ((s31.trans s32).trans s33))
end
end Vf
set_option Elab.async false
set_option linter.all false
set_option maxRecDepth 100000
set_option maxHeartbeats 4000000
/-! text[::-1] -/
namespace Vf
open PySem PySem.Spec L2 PyProof.Rows PySem.Builtin PySem.Builtin.Str
def revS (z : Str) : Str := ⟨z.cps.toList.reverse.toArray⟩
theorem revS_tl (z : Str) : TL.tl (revS z) = (TL.tl z).reverse := by simp [revS, TL.tl]
theorem picked_revS (z : Str) : ((strSliceIndices none none (-1) z.length).filterMap (z.cps[·]?)) = z.cps.toList.reverse := by
  rw [picked_rev, filterMap_get, List.map_map]
  · refine List.ext_getElem (by simp [Str.length]) fun i h1 h2 => ?_
    have hi : i < z.cps.size := by simpa [Str.length] using h1
    have h3 : z.cps.size - 1 - i < z.cps.size := by omega
    have e1 : (List.map ((fun x => z.cps.getD x 0) ∘ fun k => z.length - 1 - k) (List.range z.length))[i] = z.cps.getD (z.cps.size - 1 - i) 0 := by
      simp only [List.getElem_map, List.getElem_range, Function.comp_apply]
      rfl
    rw [e1, List.getElem_reverse]
    unfold Array.getD
    rw [dif_pos h3]
    simp
  · intro i hi
    obtain ⟨k, hk, rfl⟩ := List.mem_map.mp hi
    have hk' : k < z.length := List.mem_range.mp hk
    show z.length - 1 - k < z.length
    omega
def tRevS (te : TE) : TE := fun σ H Q => te σ H fun x H1 => ∃ z, x = .str z ∧ z.length ≤ sizeLine ∧ Q (.str (revS z)) H1
theorem pe_revS {X : Cx} {e : Expr} {te : TE} {k : Nat} {p1 p2 p3 pos : Pos} (he : PE X e te) : PE X (.Subscript e (.Slice none none (some (.UnaryOp .USub (.Constant (.int 1) k p1) p2)) p3) pos) (tRevS te) := by
  refine ⟨fun pins s σ H Q I h => ?_⟩
  refine Subscript_ (thn (he.run pins s σ H _ I h) fun v s1 ⟨x, H1, I1, r1, q1⟩ => ?_)
  obtain ⟨z, ex, hz, q⟩ := q1
  subst ex
  obtain ⟨t, rfl⟩ := r1
  have hst : PO X (some (.UnaryOp .USub (.Constant (.int 1) k p1) p2)) (tPart (tUn (rU fun i => .int (-i)) (tC (.int 1)))) := po_some (pe_un un_neg pe_int)
  refine wpAny_Slice (thn (po_none.run pins s1 σ H1 (fun o H2 => o = none ∧ H2 = H1) I1 ⟨rfl, rfl⟩) fun vl s2 ⟨l, H2, I2, pl, el, e2⟩ => ?_)
  subst el e2
  refine thn (po_none.run pins s2 σ H2 (fun o H3 => o = none ∧ H3 = H2) I2 ⟨rfl, rfl⟩) fun vu s3 ⟨u, H3, I3, pu, eu, e3⟩ => ?_
  subst eu e3
  refine thn (hst.run pins s3 σ H3 (fun o H4 => o = some (-1) ∧ H4 = H3) I3 ⟨1, rfl, -1, rfl, rfl, rfl⟩) fun vs s4 ⟨o, H4, I4, ps, eo, e4⟩ => ?_
  subst eo e4
  have I5 : Inv X pins σ H4 { s4 with heap := s4.heap.push { cls := .type "slice", data := .fields #[vl, vu, vs] } } := I4.kept (t' := s4.toks) fun b ob q => Heap.get?_push_of_some _ q
  obtain ⟨os, hos, hcs, hds⟩ := Heap.IsSliceOf.new s4.heap vl vu vs
  obtain ⟨l, rfl, el⟩ := IsPart.raw pl
  obtain ⟨u, rfl, eu⟩ := IsPart.raw pu
  obtain ⟨w, rfl, ew⟩ := IsPart.raw ps
  obtain rfl : l = none := by cases l; rfl; cases el
  obtain rfl : u = none := by cases u; rfl; cases eu
  obtain ⟨⟨wi, wt⟩, rfl⟩ : ∃ y, w = some y := by
    cases w with
    | none => cases ew
    | some y => exact ⟨y, rfl⟩
  obtain rfl : wi = -1 := Option.some.inj ew
  refine tail_any (ops := [.ref s4.heap.objs.size, .str z t]) (typeIs_str _ _ _) F.slot_str_getitem.lookup ?_ (by with_unfolding_all rfl)
  refine wpAny_getItem_str_slice (l := none) (u := none) (st := some (-1, wt)) ⟨os, hos, hcs, hds⟩ rfl ?_
  have hl : (⟨((strSliceIndices none none (-1) z.length).filterMap (z.cps[·]?)).toArray⟩ : Str) = revS z := by rw [picked_revS]; rfl
  have hlen : (revS z).length ≤ sizeLine := by
    rw [TL.len_tl, revS_tl, List.length_reverse, ← TL.len_tl]; exact hz
  show Made.post (if ((-1 : Int) == 1 && (strSliceIndices none none (-1) z.length).length == z.length) = true then Made.val (.str z t)
    else Made.str ⟨((strSliceIndices none none (-1) z.length).filterMap (z.cps[·]?)).toArray⟩) (EP X pins σ Q) _
  rw [show ((-1 : Int) == 1) = false from rfl, Bool.false_and, if_neg Bool.false_ne_true, hl]
  exact ⟨hlen, .str _, H4, I5.tok _, ⟨_, rfl⟩, q⟩
end Vf
set_option Elab.async false
set_option linter.all false
set_option maxRecDepth 100000
set_option maxHeartbeats 4000000
namespace Vf
open PySem L2 PyProof.Rows
abbrev b9 : V := V.int ((10 : Int) ^ (9 : Int).toNat)
theorem dp_due {K : PySem.W.Frag} {H : Hp} {t : Addr} {i : Int} (h : H t = some (.tup [.int i, .bl true, .bl false])) : Dp K H (.ref t) (.tuple [.int i, .bool true, .bool false]) := .tup (SqT.of h) (.cons (.int i) (.cons (.bl true) (.cons (.bl false) .nil)))
/-- all but plain lists stays -/
def KtT (H H' : Hp) : Prop := ∀ b u, H b = some u → (∀ xs, u ≠ .lst xs) → H' b = some u
theorem KtT.put {H H' : Hp} {a : Addr} {o : HO} {xs : List V} (k : KtT H H') (h : H a = some (.lst xs)) : KtT H (L2.upd H' a o) := fun b u e n => by
  rw [upd_ne (fun q => by rw [q, h] at e; exact n xs (Option.some.inj e).symm)]; exact k b u e n
theorem KtT.new {H H' : Hp} {a : Addr} {o : HO} (k : KtT H H') (h : H a = none) : KtT H (L2.upd H' a o) := fun b u e n => by
  rw [upd_ne (ne_of_none e h)]; exact k b u e n
theorem KtT.seqT {K : PySem.W.Frag} {H H' : Hp} {a : Addr} {xs : List V} (k : KtT H H') (h : SqT K H a xs) : SqT K H' a xs := by
  rcases h with (h | ⟨o, h⟩) | h
  · exact .inl (.inl (k _ _ h fun _ z => by cases z))
  · exact .inl (.inr ⟨o, k _ _ h fun _ z => by cases z⟩)
  · exact .inr h
theorem kt_ints {K : PySem.W.Frag} {H H' : Hp} (k : KtT H H') : ∀ {ts : List V} {gs : List (List Int)}, DpAll K H ts (gs.map intsT) → DpAll K H' ts (gs.map intsT)
  | [], [], _ => .nil
  | [], _ :: _, h => nomatch h
  | _ :: _, [], h => nomatch h
  | x :: ts, r :: rs, h => by
    cases h with
    | cons h hr =>
      refine .cons ?_ (kt_ints k hr)
      obtain ⟨t, us, rfl, h1, h2⟩ := h.tupE
      obtain rfl := dpAll_intsE h2
      exact .tup (k.seqT h1) (dpAll_ints K _ _)
theorem ShapeAt.kt {K : PySem.W.Frag} {C o : Addr} {H H' : Hp} {z : Str} {gs : List (List Int)} {es : List Int} (c : ShapeAt K C H o z gs es) (k : KtT H H') : ShapeAt K C H' o z gs es := by
  obtain ⟨dx, R, E, h1, h2, h3⟩ := c
  refine ⟨dx, R, E, k _ _ h1 (fun _ z => by cases z), ?_, ?_⟩
  · obtain ⟨t, us, rfl, h4, h5⟩ := h2.tupE
    exact .tup (k.seqT h4) (kt_ints k h5)
  · obtain ⟨t, us, rfl, h4, h5⟩ := h3.tupE
    obtain rfl := dpAll_intsE h5
    exact .tup (k.seqT h4) (dpAll_ints K _ _)
def dueD (i : Int) : PyData := .tuple [.int i, .bool true, .bool false]
theorem shaped_dueD (i : Int) : SeqAt.shaped (dueD i) = true := shaped_of (n := 1) (by simp [dueD, PyData.canLay0, PyData.canLayAll0]) (by simp [dueD, PyData.depth, PyData.depthAll]) (by decide)
theorem eqv_dueD (i : Int) : PyData.eqv (dueD i) (dueD i) = true := by simp [dueD, PyData.eqv, PyData.eqvAll]
theorem shaped_none : SeqAt.shaped .none = true := shaped_of (n := 0) (by simp [PyData.canLay0]) (by simp [PyData.depth]) (by decide)
theorem eqv_none : PyData.eqv .none .none = true := by simp [PyData.eqv]
def niN (z : Str) (c : Nat) : Bool := !decide (c ∈ TL.tl z)
theorem niN_t {z : Str} {c : Nat} (h : ¬ c ∈ TL.tl z) : niN z c = true := by unfold niN; simp [h]
theorem niN_f {z : Str} {c : Nat} (h : c ∈ TL.tl z) : ¬ niN z c = true := by unfold niN; simp [h]
theorem strange_bad {z y : Str} {c : Nat} (h : c ∈ TL.tl y) (hn : ¬ c ∈ TL.tl z) : ∃ i, strange z y = some i := by
  cases e : strange z y with
  | none => exact absurd (strange_none e c h) hn
  | some i => exact ⟨i, rfl⟩
theorem first_odd {z : Str} (h : ∀ c ∈ TL.tl z, 97 ≤ c ∧ c ≤ 122) : ∃ s0, ((TL.tl "mxy7").filter (niN z))[0]? = some s0 ∧ ¬ s0 ∈ TL.tl z := by
  have e : (55 : Nat) ∈ (TL.tl "mxy7").filter (niN z) := List.mem_filter.mpr ⟨by decide +kernel, niN_t fun q => by have := h _ q; omega⟩
  have hp := List.length_pos_of_mem e
  refine ⟨_, List.getElem?_eq_getElem hp, fun q => ?_⟩
  exact niN_f q (List.mem_filter.mp (List.getElem_mem hp)).2
structure TxtAll (K : PySem.W.Frag) (mg : Str → Option Value) (fD fP fPen fLe fSh fCs fCn fHD fLi fBe fRf C fCG fCD B CB fB' fSP fSt fEq fLn : Addr) : Prop extends TxtP K mg fD fP, TxtSM K mg C fCG fCD B CB fB' fSP fSt fEq fLn where
  min : mg "min" = none
  bool : mg "bool" = none
  kb : PySem.W.kitOne K (.type "bool") (.type "bool") = some true
  m_law_pen : mg "_law_pen" = some (.ref fPen)
  k_law_pen : PySem.W.keepIn K (.ref fPen) = true
  m_law_letters : mg "_law_letters" = some (.ref fLe)
  k_law_letters : PySem.W.keepIn K (.ref fLe) = true
  m_law_shape : mg "_law_shape" = some (.ref fSh)
  k_law_shape : PySem.W.keepIn K (.ref fSh) = true
  m_law_columns : mg "_law_columns" = some (.ref fCs)
  k_law_columns : PySem.W.keepIn K (.ref fCs) = true
  m_law_column : mg "_law_column" = some (.ref fCn)
  k_law_column : PySem.W.keepIn K (.ref fCn) = true
  m_law_has : mg "_law_has" = some (.ref fHD)
  k_law_has : PySem.W.keepIn K (.ref fHD) = true
  m_law_like : mg "_law_like" = some (.ref fLi)
  k_law_like : PySem.W.keepIn K (.ref fLi) = true
  m_law_bent : mg "_law_bent" = some (.ref fBe)
  k_law_bent : PySem.W.keepIn K (.ref fBe) = true
  m_law_refused : mg "_law_refused" = some (.ref fRf)
  k_law_refused : PySem.W.keepIn K (.ref fRf) = true
theorem strange_of {z y : Str} (h : ∀ c ∈ TL.tl y, c ∈ TL.tl z) : strange z y = none := List.findIdx?_eq_none_iff.mpr fun x hx => by simpa using h x hx
def spLaw (K : PySem.W.Frag) : Sp := fun vs H Q _ => ∃ (a : Addr) (ns : List Int), vs = [.ref a] ∧ SqL K H a (ns.map V.int) ∧ ns.length ≤ 63 ∧ ∀ H', Q (.bl true) H'
section
variable {P : Program} {w : World} {K : PySem.W.Frag} {mg : Str → Option Value} {base : Heap}
abbrev s_law : Stmt := top 29
abbrev N_law : List Str := ["_law_script", "_law_pen_here", "_law_turn", "_law_letters_here", "_law_shape_here", "_law_rows", "_law_good", "_law_made", "_law_columns_here", "_law_column_here", "_law_told", "_law_strange", "_law_at", "_law_due", "_law_row", "_law_k", "_law_letter"]
abbrev P_law : List Str := ["_law_script"]
theorem sc_law : FnScope N_law P_law (defScope s_law) := ⟨rfl, rfl, rfl, by decide +kernel, rfl, by decide +kernel, by decide +kernel⟩

theorem ok_law {f fD fP fPen fLe fSh fCs fCn fHD fLi fBe fRf C fCG fCD B CB fB' fSP fSt fEq fLn fHas fI : Addr} {fd fdD fdP fdPen fdLe fdSh fdCs fdCn fdHD fdLi fdBe fdRf fdLn fdHas fdI : FuncData} (F : Fun K "law" "law" s_law f fd) (T : TxtAll K mg fD fP fPen fLe fSh fCs fCn fHD fLi fBe fRf C fCG fCD B CB fB' fSP fSt fEq fLn)
    (FD : Fun K "_law_draw" "_law_draw" s__law_draw fD fdD) (b_law_draw : Binds K fdD P__law_draw []) (FP : Fun K "_law_pick" "_law_pick" s__law_pick fP fdP) (b_law_pick : Binds K fdP P__law_pick [])
    (FPen : Fun K "_law_pen" "_law_pen" s__law_pen fPen fdPen) (b_law_pen : Binds K fdPen P__law_pen []) (FLe : Fun K "_law_letters" "_law_letters" s__law_letters fLe fdLe) (b_law_letters : Binds K fdLe P__law_letters [])
    (FSh : Fun K "_law_shape" "_law_shape" s__law_shape fSh fdSh) (b_law_shape : Binds K fdSh P__law_shape [])
    (FCs : Fun K "_law_columns" "_law_columns" s__law_columns fCs fdCs) (b_law_columns : Binds K fdCs P__law_columns []) (FCn : Fun K "_law_column" "_law_column" s__law_column fCn fdCn) (b_law_column : Binds K fdCn P__law_column [])
    (FHD : Fun K "_law_has" "_law_has" s__law_has fHD fdHD) (b_law_has : Binds K fdHD P__law_has [])
    (G_law_like : FnOk P w K mg base (L2.CX P w) 7 fLi fdLi P__law_like (spLikeS K C)) (b_law_like : Binds K fdLi P__law_like [])
    (G_law_bent : FnOk P w K mg base CX0 3 fBe fdBe P__law_bent (spBentS K)) (b_law_bent : Binds K fdBe P__law_bent [])
    (G_law_refused : FnOk P w K mg base CX0 6 fRf fdRf P__law_refused (spRefS K)) (b_law_refused : Binds K fdRf P__law_refused [])
    (FLn : Fun K "__len__" "Shape.__len__" s_Shape___len__ fLn fdLn) (bLn : Binds K fdLn P_Shape___len__ [])
    (mtHas : Meth K C "has" fHas) (GHas : FnOk P w K mg base CX0 2 fHas fdHas P_Shape_has (spHas K C)) (bHas : Binds K fdHas P_Shape_has [])
    (MShape : Mk K C fI) (GShape : FnOk P w K mg base (L2.CX P w) 4 fI fdI P_Shape___init__ (spInitS K C CB)) (bShape : Binds K fdI P_Shape___init__ []) : FnOk P w K mg base (L2.CX P w) 8 f fd P_law (spLaw K) := by
  have G_law_pen : FnOk P w K mg base CX0 1 fPen fdPen P__law_pen (spPen K) := ok_pen FPen T.toTxtA
  have G_law_draw : FnOk P w K mg base CX0 1 fD fdD P__law_draw spDraw := ok_draw FD T.toTxtA
  have G_law_letters : FnOk P w K mg base CX0 2 fLe fdLe P__law_letters spLetters := ok_letters FLe T.toTxtD FD b_law_draw
  have G_law_shape : FnOk P w K mg base CX0 2 fSh fdSh P__law_shape spShape := ok_shape FSh T.toTxtD FD b_law_draw
  have G_law_columns : FnOk P w K mg base CX0 1 fCs fdCs P__law_columns (spCols K) := ok_cols FCs T.toTxtA
  have G_law_column : FnOk P w K mg base CX0 3 fCn fdCn P__law_column spCol := ok_col FCn T.toTxtP FD b_law_draw FP b_law_pick
  have G_law_has : FnOk P w K mg base CX0 1 fHD fdHD P__law_has spHasD := ok_hasD FHD
  have GLn : FnOk P w K mg base CX0 1 fLn fdLn P_Shape___len__ (spLnS K C) := ok_lnS FLn T.toTxtS
  refine F.okX sc_law (fun vs H Q E h => ?_) (fun cdv A outer s H vs Q E hr h => ?_)
  · obtain ⟨a, ns, rfl, _⟩ := h
    rfl
  · obtain ⟨a, ns, rfl, hS, hlen, k⟩ := h
    have hu := hu_of hr
    have passL : Passes (L2.CX P w) (cxOf (L2.CX P w) P w K mg base N_law "law" (defScope s_law) f cdv A outer s H E) E := passes_call (takes_of rfl rfl rfl rfl) (fun _ _ _ _ h => h)
    refine ⟨_, (pss_cons (ps_set (i := 1) sc_law.nd rfl (Or.inr rfl) (pe_call G_law_pen (hr.mono (by decide)) (by rfl) T.m_law_pen T.k_law_pen b_law_pen .nil pass0 (pa_cons (pv 0) pa_nil)))
      (pss_cons (ps_for (passes_of rfl) rfl (pi_range1 (by rfl) T.range (pa_cons (pe_op op_add pe_int (pe_callB (call_min2 rfl) (by rfl) T.min boot_min (pa_cons pe_int (pa_cons (pe_callB call_len (by rfl) T.len PySem.boot_len (pa_cons (pv 0) pa_nil)) pa_nil)))) pa_nil)) (pg_name (i := 2) sc_law.nd rfl (Or.inl rfl)) (pss_cons (ps_set (i := 3) sc_law.nd rfl (Or.inr rfl) (pe_call G_law_letters (hr.mono (by decide)) (by rfl) T.m_law_letters T.k_law_letters b_law_letters .nil pass0 (pa_cons (pv 1) (pa_cons (pe_op op_add pe_int (pe_call G_law_draw (hr.mono (by decide)) (by rfl) T.m_law_draw T.k_law_draw b_law_draw .nil pass0 (pa_cons (pv 1) (pa_cons pe_int pa_nil)))) pa_nil))))
      (pss_cons (ps_set (i := 4) sc_law.nd rfl (Or.inl rfl) (pe_call G_law_shape (hr.mono (by decide)) (by rfl) T.m_law_shape T.k_law_shape b_law_shape .nil pass0 (pa_cons (pv 1) (pa_cons (pv 3) (pa_cons pe_int pa_nil)))))
      (pss_cons (ps_par (i := 5) (j := 6) (by rfl) sc_law.nd rfl rfl (by decide) rfl rfl (pa_cons (pe_lc (own := [("_law_row", 14)]) (g := gName 14) (by rfl) sc_law.nd (pi_seq (K := K) rfl (pe_ix ix_tup (pv 4) pe_int (fun _ _ => rfl))) (blkOk_by (own := [("_law_row", 14)]) (N := N_law) (sc := defScope s_law) (by decide +kernel)) (fun _ _ _ _ _ => pg_name (i := 14) sc_law.nd rfl (Or.inl rfl)) (fun _ _ _ _ _ => pts_nil) (fun _ _ _ _ _ => (pe_callTy (call_listK (K := K) rfl) (by rfl) T.list boot_list (pa_cons (pv 14) pa_nil)))) (pa_cons (pe_op op_cat (pe_ix ix_tup (pv 4) pe_int (fun _ _ => rfl)) (pe_slice sl_list (pe_ix ix_tup (pv 4) pe_int (fun _ _ => rfl)) po_none (po_some pe_int))) pa_nil)) (by rfl))
      (pss_cons (ps_set (i := 7) sc_law.nd rfl (Or.inl rfl) (pe_make MShape GShape (hr.mono (by decide)) (by rfl) T.mgShape bShape .nil passL (pa_cons (pv 3) (pa_cons (pv 5) (pa_cons (pv 6) pa_nil)))))
      (pss_cons (ps_asg (pe_tup (pa_cons (pe_op op_pow pe_int pe_int) (pa_cons (pe_op op_pow pe_int pe_int) pa_nil))) (pg_tup (by rfl) (pgs_cons (pg_sub (pe_ix ix_list (pv 5) pe_int (fun _ _ => rfl)) pe_int set_list) (pgs_cons (pg_sub (pv 6) pe_int set_list) pgs_nil))))
      (pss_cons (ps_expr (pe_bm PySem.F.plainAttrs_list PySem.F.slot_list_append PySem.F.type_list_append mt_append (pv 5) (pa_cons (pe_lst pa_nil) pa_nil)))
      (pss_cons (ps_if (PW.pt (pw_or (pt_cmpR op_ne (pe_fld (pv 7) rfl) (pv 3) (nomark _)) (pw_or1 (pt_cmpR (op_neD hr.units) (pe_fld (pv 7) rfl) (pe_callTy call_tuple_of (by rfl) T.tuple boot_tuple (pa_cons (pe_lc (own := [("_law_row", 14)]) (g := gName 14) (by rfl) sc_law.nd (pi_seq (K := K) rfl (pe_ix ix_tup (pv 4) pe_int (fun _ _ => rfl))) (blkOk_by (own := [("_law_row", 14)]) (N := N_law) (sc := defScope s_law) (by decide +kernel)) (fun _ _ _ _ _ => pg_name (i := 14) sc_law.nd rfl (Or.inl rfl)) (fun _ _ _ _ _ => pts_nil) (fun _ _ _ _ _ => (pe_callTy (call_tupleK (K := K) rfl) (by rfl) T.tuple boot_tuple (pa_cons (pv 14) pa_nil)))) pa_nil)) (nomark _))))) (pss_one (ps_ret pe_bl)) pss_nil)
      (pss_cons (ps_if (PW.pt (pw_or (pt_cmpR (op_neD hr.units) (pe_fld (pv 7) rfl) (pe_callTy call_tuple_of (by rfl) T.tuple boot_tuple (pa_cons (pe_callB (cr_sortedSet rfl) (by rfl) T.sorted boot_sorted (pa_cons (pe_callTy (call_setI rfl) (by rfl) T.set (by decide +kernel) (pa_cons (pe_ix ix_tup (pv 4) pe_int (fun _ _ => rfl)) pa_nil)) pa_nil)) pa_nil)) (nomark _)) (pw_or1 (pt_cmpR op_ne (pe_callB (call_lenI T.lns T.lnf GLn (hr.mono (by decide)) bLn pass0) (by rfl) T.len PySem.boot_len (pa_cons (pv 7) pa_nil)) (pe_callB call_len (by rfl) T.len PySem.boot_len (pa_cons (pe_ix ix_tup (pv 4) pe_int (fun _ _ => rfl)) pa_nil)) (nomark _))))) (pss_one (ps_ret pe_bl)) pss_nil)
      (pss_cons (ps_set (i := 8) sc_law.nd rfl (Or.inl rfl) (pe_op op_cat (pe_call G_law_columns (hr.mono (by decide)) (by rfl) T.m_law_columns T.k_law_columns b_law_columns .nil pass0 (pa_cons (pv 3) (pa_cons pe_int pa_nil))) (pe_lc (own := [("_law_k", 15)]) (g := gName 15) (by rfl) sc_law.nd (pi_range1 (by rfl) T.range (pa_cons pe_int pa_nil)) (blkOk_by (own := [("_law_k", 15)]) (N := N_law) (sc := defScope s_law) (by decide +kernel)) (fun _ _ _ _ _ => pg_name (i := 15) sc_law.nd rfl (Or.inl rfl)) (fun _ _ _ _ _ => pts_nil) (fun _ _ _ _ _ => (pe_call G_law_column (hr.mono (by decide)) (by rfl) T.m_law_column T.k_law_column b_law_column .nil pass0 (pa_cons (pv 1) (pa_cons (pv 3) (pa_cons pe_int pa_nil))))))))
      (pss_cons (ps_for (passes_of rfl) rfl (pi_seq (K := K) rfl (pv 8)) (pg_name (i := 9) sc_law.nd rfl (Or.inl rfl)) (pss_cons (ps_set (i := 10) sc_law.nd rfl (Or.inl rfl) (pe_meth (pv 7) T.cl mtHas GHas (hr.mono (by decide)) bHas .nil pass0 (pa_cons (pv 9) pa_nil)))
      (pss_one (ps_if (PW.pt (pw_or (pt_not (pt_val (pe_callB call_isi (by rfl) T.isinstance boot_isinstance (pa_cons (pv 10) (pa_cons (pe_bltn (v := .ty "bool") (by rfl) T.bool (by decide +kernel) rfl) pa_nil))))) (pw_or1 (pt_cmpR op_ne (pv 10) (pe_call G_law_has (hr.mono (by decide)) (by rfl) T.m_law_has T.k_law_has b_law_has .nil pass0 (pa_cons (pv 4) (pa_cons (pv 9) pa_nil))) (nomark _))))) (pss_one (ps_ret pe_bl)) pss_nil))))
      (pss_cons (ps_set (i := 11) sc_law.nd rfl (Or.inl rfl) (pe_ix ix_list (pe_lc (own := [("_law_letter", 16)]) (g := gName 16) (by rfl) sc_law.nd (pi_str pe_str) (blkOk_by (own := [("_law_letter", 16)]) (N := N_law) (sc := defScope s_law) (by decide +kernel)) (fun _ _ _ _ _ => pg_name (i := 16) sc_law.nd rfl (Or.inl rfl)) (fun _ _ _ _ _ => (pts_one (pt_cmpR op_notIn_sign (pv 16) (pv 3) (by rfl)))) (fun _ _ _ _ _ => (pv 16))) pe_int (fun _ _ => rfl)))
      (pss_cons (ps_set (i := 9) sc_law.nd rfl (Or.inl rfl) (pe_call G_law_column (hr.mono (by decide)) (by rfl) T.m_law_column T.k_law_column b_law_column .nil pass0 (pa_cons (pv 1) (pa_cons (pv 3) (pa_cons pe_int pa_nil)))))
      (pss_cons (ps_set (i := 12) sc_law.nd rfl (Or.inl rfl) (pe_call G_law_draw (hr.mono (by decide)) (by rfl) T.m_law_draw T.k_law_draw b_law_draw .nil pass0 (pa_cons (pv 1) (pa_cons (pe_op op_add (pe_callB call_len (by rfl) T.len PySem.boot_len (pa_cons (pv 9) pa_nil)) pe_int) pa_nil))))
      (pss_cons (ps_if (PW.pt (pw_or (pt_cmpR op_notBl (pe_meth (pv 7) T.cl mtHas GHas (hr.mono (by decide)) bHas .nil pass0 (pa_cons (pe_op op_add_str (pe_op op_add_str (pe_slice sl_str (pv 9) po_none (po_some (pv 12))) (pv 11)) (pe_slice sl_str (pv 9) (po_some (pv 12)) po_none)) pa_nil)) pe_bl (nomark _)) (pw_or1 (pt_not (pt_val (pe_call G_law_like (hr.mono (by decide)) (by rfl) T.m_law_like T.k_law_like b_law_like .nil passL (pa_cons (pv 7) (pa_cons (pv 4) (pa_cons (pv 1) pa_nil))))))))) (pss_one (ps_ret pe_bl)) pss_nil)
      (pss_cons (ps_asg (pe_call G_law_bent (hr.mono (by decide)) (by rfl) T.m_law_bent T.k_law_bent b_law_bent .nil pass0 (pa_cons (pv 1) (pa_cons (pv 4) pa_nil))) (pg_tup (by rfl) (pgs_cons (pg_name (i := 5) sc_law.nd rfl (Or.inl rfl)) (pgs_cons (pg_name (i := 6) sc_law.nd rfl (Or.inl rfl)) (pgs_cons (pg_name (i := 13) sc_law.nd rfl (Or.inl rfl)) pgs_nil)))))
      (pss_cons (ps_if (pt_cmpR (op_neD hr.units) (pe_call G_law_refused (hr.mono (by decide)) (by rfl) T.m_law_refused T.k_law_refused b_law_refused .nil pass0 (pa_cons (pv 3) (pa_cons (pv 5) (pa_cons (pv 6) pa_nil)))) (pe_ifExp (pt_cmpR op_isN (pv 13) pe_non (nomark _)) pe_non (pe_tup (pa_cons (pv 13) (pa_cons pe_bl (pa_cons pe_bl pa_nil))))) (nomark _)) (pss_one (ps_ret pe_bl)) pss_nil)
      (pss_one (ps_if (pt_cmpR (op_neD hr.units) (pe_call G_law_refused (hr.mono (by decide)) (by rfl) T.m_law_refused T.k_law_refused b_law_refused .nil pass0 (pa_cons (pv 3) (pa_cons (pe_lst pa_nil) (pa_cons (pe_lst pa_nil) pa_nil)))) (pe_tup (pa_cons pe_int (pa_cons pe_bl (pa_cons pe_bl pa_nil)))) (nomark _)) (pss_one (ps_ret pe_bl)) pss_nil)))))))))))))))))))
      (pss_one (ps_ret pe_bl)))), ?_⟩
    refine ⟨_, rfl, a, ns, rfl, hS, hlen, fun p c H1 hpn hcn hp1 s1 => ?_⟩
    have hJ : ∀ l : Nat, 0 ≤ 3 + (if (l : Int) < 5 then (l : Int) else 5) ∧ 3 + (if (l : Int) < 5 then (l : Int) else 5) ≤ 8 := fun l => by split <;> omega
    have hJ1 := hJ (ns.map V.int).length
    refine ⟨_, rfl, _, _, rfl, Or.inl ⟨_, (Kl.same s1).seq hS, rfl⟩, _, _, rfl, _, _, rfl, rfl, _, rfl, (by show -(2 ^ 62) ≤ 3 + (if ((ns.map V.int).length : Int) < 5 then ((ns.map V.int).length : Int) else 5); omega), (by show 3 + (if ((ns.map V.int).length : Int) < 5 then ((ns.map V.int).length : Int) else 5) < 2 ^ 62; omega),
      for_range (n := (3 + (if ((ns.map V.int).length : Int) < 5 then ((ns.map V.int).length : Int) else 5)).toNat) (fun i σ H2 => ∃ v2 v3 v4 v5 v6 v7 v8 v9 v10 v11 v12 v13 v14 v15 v16 : Option V, σ = [some (.ref a), some (.ref p), v2, v3, v4, v5, v6, v7, v8, v9, v10, v11, v12, v13, v14, v15, v16] ∧ Pen H2 p c (i * 4000))
      ⟨none, none, none, none, none, none, none, none, none, none, none, none, none, none, none, rfl, hp1⟩ ?_ ?_⟩
    · rintro i σ H2 hi ⟨v2, v3, v4, v5, v6, v7, v8, v9, v10, v11, v12, v13, v14, v15, v16, rfl, hp2⟩
      have hi8 : i < 8 := by omega
      refine ⟨_, rfl, _, rfl, p, c, 3, _, rfl, hp2, by omega, by decide, by decide, fun d H3 d0 d1 hp3 k3 => ⟨_, _, rfl, rfl, ?_⟩⟩
      obtain ⟨m, hm⟩ : ∃ m : Nat, 1 + d = m := ⟨(1 + d).toNat, by omega⟩
      refine ⟨p, c, m, _, (by show [V.ref p, V.int (1 + d)] = [V.ref p, V.int m]; rw [hm]), hp3, by omega, by omega, fun z H4 hz hp4 k4 => ?_⟩
      obtain ⟨hzl, hzs, hzc⟩ := hz
      have hz3 : z.length ≤ 3 := by omega
      have hz1 : 1 ≤ z.length := by omega
      clear hp2 hp3 k3 k4
      refine ⟨_, rfl, _, rfl, p, c, z, 6, _, rfl, hp4, by omega, by decide, by decide, by omega, fun t H5 gs es hSD hg hgl hes hel hel0 hp5 k5 => ?_⟩
      clear hp4 k5
      obtain ⟨R, G, rs0, ht, hR, hrs, hG⟩ := id hSD
      have lr : rs0.length = gs.length := hrs.1
      have hgp : 0 < gs.length := hg.2
      have hzs' : z.length ≤ sizeLine := Nat.le_of_lt (small1000 (by omega))
      refine ⟨_, rfl, t, _, 1, .ref R, rfl, rfl, SqT.of ht, rfl, R, _, rfl, Or.inl (SqL.of hR), fun J hJ D hD => lc_it hJ (fun i H4 => ∃ rs : List Addr, H4 D = some (.lst (rs.map V.ref)) ∧ Forall2 (fun (r : Addr) (row : List Int) => H4 r = some (.lst (row.map V.int))) rs (gs.take i) ∧ (∀ r ∈ rs, r ≠ D) ∧ (∀ r ∈ rs, H5 r = none) ∧ Same H5 H4)
        ⟨[], upd_same, ⟨rfl, fun i x y e1 e2 => nomatch e1⟩, (fun r hr => nomatch hr), (fun r hr => nomatch hr), same_new hD⟩ (fun i H4 _ ⟨_, _, _, _, _, s4⟩ => GSq.same s4) ?_ ?_⟩
      · rintro i x H4' H4 hi ⟨rs, hD4, hf, hne, hnw, s4⟩ ⟨rfl, hx⟩
        rw [List.length_map] at hi
        have hi' : i < gs.length := by omega
        obtain rfl : V.ref (rs0[i]) = x := by
          rw [List.getElem?_map, List.getElem?_eq_getElem hi] at hx
          exact Option.some.inj hx
        have hrow4 := s4 _ _ (hrs.2 i _ _ (List.getElem?_eq_getElem hi) (List.getElem?_eq_getElem hi'))
        refine ⟨rfl, ?_⟩
        refine lcYes ?_
        have lrs : rs.length = i := by rw [hf.1, List.length_take]; omega
        refine ⟨_, rfl, rs0[i], _, rfl, Or.inl (SqL.of hrow4), fun q hq => ?_⟩
        have nqD : q ≠ D := (ne_of_none hD4 hq).symm
        have hq11 : H5 q = none := s4.free hq
        refine ⟨_, same_new hq _ _ hD4, by rw [List.length_map]; exact small1000 (by omega), rs ++ [q], by rw [upd_same, List.map_append]; rfl, ?_, fun r hr => ?_, fun r hr => ?_, (s4.trans (same_new hq)).put hD⟩
        · rw [take_more hi']
          refine Forall2.snoc ⟨hf.1, fun j x y e1 e2 => ?_⟩ (by rw [upd_ne nqD, upd_same])
          show L2.upd _ D _ x = _
          rw [upd_ne (hne x (List.mem_of_getElem? e1))]
          exact same_new hq _ _ (hf.2 j x y e1 e2)
        · rcases List.mem_append.mp hr with h | h
          · exact hne r h
          · rw [List.mem_singleton.mp h]; exact nqD
        · rcases List.mem_append.mp hr with h | h
          · exact hnw r h
          · rw [List.mem_singleton.mp h]; exact hq11
      rintro H6 ⟨rs, hD6, hf, hne, hnw, s6⟩
      rw [List.length_map, lr, List.take_length] at hf
      have ht6 := s6 _ _ ht
      have hG6 := s6 _ _ hG
      refine ⟨_, rfl, t, _, 2, .ref G, rfl, rfl, SqT.of ht6, rfl, _, rfl, t, _, 2, .ref G, rfl, rfl, SqT.of ht6, rfl, _, rfl, G, _, rfl, SqL.of hG6, fun A1 hA1 => ?_⟩
      rw [show (1 : Int) = ((1 : Nat) : Int) from rfl, cutV_toN, ← List.map_take]
      refine ⟨G, A1, _, _, rfl, rfl, same_new hA1 _ _ hG6, upd_same, Nat.le_of_lt (small1000 (by rw [List.length_map, List.length_map, List.length_take]; omega)), fun A2 hA2 => ⟨_, _, rfl, ?_⟩⟩
      rw [← List.map_append]
      have hA25 : H5 A2 = none := by
        cases q : H5 A2 with
        | none => rfl
        | some u => rw [same_new hA1 _ _ (s6 _ _ q)] at hA2; cases hA2
      have s7 : Same H6 (L2.upd (L2.upd H6 A1 (.lst ((es.take 1).map V.int))) A2 (.lst ((es ++ es.take 1).map V.int))) := (same_new hA1).trans (same_new hA2)
      have hA7 : (L2.upd (L2.upd H6 A1 (.lst ((es.take 1).map V.int))) A2 (.lst ((es ++ es.take 1).map V.int))) A2 = some (.lst ((es ++ es.take 1).map V.int)) := upd_same
      have nDA : D ≠ A2 := ne_of_none (same_new hA1 _ _ hD6) hA2
      have hrA : ∀ r ∈ rs, r ≠ A2 := fun r hr => by
        obtain ⟨j, hj, rfl⟩ := List.getElem_of_mem hr
        exact ne_of_none (same_new hA1 _ _ (hf.2 j _ _ (List.getElem?_eq_getElem hj) (List.getElem?_eq_getElem (by rw [← hf.1]; exact hj)))) hA2
      change tSeq _ _ _ _ (L2.upd (L2.upd H6 A1 (.lst ((es.take 1).map V.int))) A2 (.lst ((es ++ es.take 1).map V.int)))
      generalize L2.upd (L2.upd H6 A1 (.lst ((es.take 1).map V.int))) A2 (.lst ((es ++ es.take 1).map V.int)) = H7 at s7 hA7 ⊢
      have hM7 : RowsM H7 D gs := ⟨rs, s7 _ _ hD6, hf.imp fun x y _ h => s7 _ _ h, hne⟩
      have hrsl : rs.length = gs.length := hf.1
      have s57 := s6.trans s7
      have hmem : ∀ x, x ∈ es ++ es.take 1 ↔ x ∈ es := fun x => ⟨fun h => by
        rcases List.mem_append.mp h with q | q
        · exact q
        · exact List.mem_of_mem_take q, fun h => List.mem_append_left _ h⟩
      have hl2 : (es ++ es.take 1).length ≤ 16 := by rw [List.length_append, List.length_take]; omega
      refine ⟨_, rfl, _, rfl, _, rfl, fun x dx hx hdx ne => mk_ok hx hdx ne (Or.inl hM7.dp) hA7 hg (fun e he => hes e ((hmem e).mp he)) (by omega) (by omega) (by omega) (fun H8 s8 hM => ⟨rfl, ?_⟩)⟩
      have hM : MadeAt K C H8 x z gs es := by
        obtain ⟨f, u, m, h⟩ := hM
        exact ⟨f, u, fun y => by rw [m y, hmem y], h⟩
      have s58 := s57.trans s8
      have hD8 := s8 _ _ (s7 _ _ hD6)
      have hA8 := s8 _ _ hA7
      have hrl0 : 0 < rs.length := by rw [hf.1]; exact hgp
      have hrow8 := s8 _ _ (s7 _ _ (hf.2 0 _ _ (List.getElem?_eq_getElem hrl0) (List.getElem?_eq_getElem hgp)))
      have hr0n := hnw _ (List.getElem_mem hrl0)
      have hr0D := hne _ (List.getElem_mem hrl0)
      have hr0A := hrA _ (List.getElem_mem hrl0)
      have hg0l : 0 < (gs[0]'hgp).length := by rw [(good_row hg hgp).1]; exact hz1
      clear hx hdx ne hM7 s57 hf hne hnw hrA s7 hA7 s6 hD6 s8
      refine ⟨_, _, rfl, rfl, ⟨by decide, by decide, by decide⟩, _, _, rfl, rfl, ⟨by decide, by decide, by decide⟩, by show 2 ≤ sizeLine; decide, fun q hq => ?_⟩
      refine ⟨q, _, rfl, SqT.of upd_same, rfl, ?_⟩
      have nqr : q ≠ rs[0] := (ne_of_none hrow8 hq).symm
      have nqD : q ≠ D := (ne_of_none hD8 hq).symm
      have nqA : q ≠ A2 := (ne_of_none hA8 hq).symm
      refine ⟨_, _, rfl, _, rfl, D, _, 0, .ref rs[0], rfl, rfl, SqL.of (same_new hq _ _ hD8), at_of' (show (0 : Int) = ((0 : Nat) : Int) from rfl) (by rw [List.getElem?_map, List.getElem?_eq_getElem hrl0]; rfl), rs[0], _, 0, 0, rfl, rfl, same_new hq _ _ hrow8, ixN_nat (i := 0) (by rw [List.length_map]; exact hg0l), ?_⟩
      refine ⟨_, _, rfl, _, rfl, A2, _, 0, 0, rfl, rfl, by rw [upd_ne hr0A.symm]; exact same_new hq _ _ hA8, ixN_nat (i := 0) (by rw [List.length_map, List.length_append]; omega), rfl, ?_⟩
      have kt9 : KtT H8 (L2.upd (L2.upd (L2.upd H8 q (.tup [b9, b9])) rs[0] (.lst (((gs[0]'hgp).map V.int).set 0 b9))) A2 (.lst (((es ++ es.take 1).map V.int).set 0 b9))) := (((KtT.new (fun _ _ e _ => e) hq).put hrow8).put hA8)
      have s59 : Same H5 (L2.upd (L2.upd (L2.upd H8 q (.tup [b9, b9])) rs[0] (.lst (((gs[0]'hgp).map V.int).set 0 b9))) A2 (.lst (((es ++ es.take 1).map V.int).set 0 b9))) := ((s58.trans (same_new hq)).put hr0n).put hA25
      have hD9 : (L2.upd (L2.upd (L2.upd H8 q (.tup [b9, b9])) rs[0] (.lst (((gs[0]'hgp).map V.int).set 0 b9))) A2 (.lst (((es ++ es.take 1).map V.int).set 0 b9))) D = some (.lst (rs.map V.ref)) := by
        rw [upd_ne nDA, upd_ne hr0D.symm]
        exact same_new hq _ _ hD8
      change tSeq _ _ _ _ (L2.upd (L2.upd (L2.upd H8 q (.tup [b9, b9])) rs[0] (.lst (((gs[0]'hgp).map V.int).set 0 b9))) A2 (.lst (((es ++ es.take 1).map V.int).set 0 b9)))
      generalize L2.upd (L2.upd (L2.upd H8 q (.tup [b9, b9])) rs[0] (.lst (((gs[0]'hgp).map V.int).set 0 b9))) A2 (.lst (((es ++ es.take 1).map V.int).set 0 b9)) = H9 at kt9 s59 hD9 ⊢
      have hM9 : MadeAt K C H9 x z gs es := by
        obtain ⟨f, u, m, h⟩ := hM
        exact ⟨f, u, m, h.kt kt9⟩
      clear hM kt9 hA8 hrow8 hD8 nqA nqD nqr hq s58
      refine ⟨_, rfl, Or.inl ⟨rfl, _, SqL.of hD9⟩, by show 0 ≤ sizeLine; decide, fun q2 hq2 => ⟨D, _, .ref q2, rfl, rfl, same_new hq2 _ _ hD9, small1000 (by rw [List.length_map]; omega), ?_⟩⟩
      have hM10 : MadeAt K C (L2.upd (L2.upd H9 q2 (.lst [])) D (.lst (rs.map V.ref ++ [.ref q2]))) x z gs es := by
        obtain ⟨f, u, m, h⟩ := hM9
        exact ⟨f, u, m, (h.same (same_new hq2)).kt (KtT.put (fun _ _ e _ => e) (same_new hq2 _ _ hD9))⟩
      have s10 : Same H5 (L2.upd (L2.upd H9 q2 (.lst [])) D (.lst (rs.map V.ref ++ [.ref q2]))) := (s59.trans (same_new hq2)).put hD
      generalize L2.upd (L2.upd H9 q2 (.lst [])) D (.lst (rs.map V.ref ++ [.ref q2])) = H10 at hM10 s10 ⊢
      clear hM9 s59 hD9 hq2
      have hp10 := hp5.same s10
      have hS10 := hSD.same s10
      have ht10 := s10 _ _ ht
      have hR10 := s10 _ _ hR
      have hG10 := s10 _ _ hG
      have hrs10 : Forall2 (fun (r : Addr) (row : List Int) => H10 r = some (.lst (row.map V.int))) rs0 gs := hrs.imp fun x y _ h => s10 _ _ h
      clear hp5 hSD ht hR hG hrs ht6 hG6 hA25 hD hr0n hr0D hr0A hrl0 hg0l nDA hA1 hA2 s10
      obtain ⟨fe, hu1, hm1, hSh⟩ := hM10
      obtain ⟨dx, Rm, Em, hx10, hRm, hEm⟩ := id hSh
      refine ⟨_, rfl, x, C, dx, _, _, rfl, hx10, T.cl, T.nL, sf_letters _ _ _, _, rfl, rfl, _, rfl, ite2 (fun c => absurd c (by simp)) (fun _ => ?_)⟩
      refine ⟨_, rfl, x, C, dx, _, _, rfl, hx10, T.cl, T.nR, sf_rows _ _ _, _, rfl, t, _, 1, .ref R, rfl, rfl, SqT.of ht10, rfl, R, _, rfl, Or.inl (SqL.of hR10), fun J2 hJ2 D2 hD2 => lc_it hJ2 (fun i H4 => ∃ vs : List V, H4 D2 = some (.lst vs) ∧ DpAll K (L2.del H4 D2) vs ((gs.take i).map intsT) ∧ Same H10 H4)
        ⟨[], upd_same, .nil, same_new hD2⟩ (fun i H4 _ ⟨_, _, _, s4⟩ => GSq.same s4) ?_ ?_⟩
      · rintro i x H4' H4 hi ⟨vs, hD4, hd4, s4⟩ ⟨rfl, hx⟩
        rw [List.length_map] at hi
        have hi' : i < gs.length := by omega
        obtain rfl : V.ref (rs0[i]) = x := by
          rw [List.getElem?_map, List.getElem?_eq_getElem hi] at hx
          exact Option.some.inj hx
        have hrow := s4 _ _ (hrs10.2 i _ _ (List.getElem?_eq_getElem hi) (List.getElem?_eq_getElem hi'))
        refine ⟨rfl, ?_⟩
        refine lcYes ?_
        have hvl : vs.length < sizeLine := by rw [hd4.length, List.length_map, List.length_take]; exact small1000 (by omega)
        refine ⟨_, rfl, rs0[i], _, rfl, Or.inl ⟨SqL.of hrow, fun q hq => ⟨vs, same_new hq _ _ hD4, hvl, vs ++ [.ref q], upd_same, ?_, (s4.trans (same_new hq)).put hD2⟩⟩⟩
        have nqD : q ≠ D2 := (ne_of_none hD4 hq).symm
        have e0 : Kl (L2.del H4 D2) (L2.del (L2.upd (L2.upd H4 q (.tup (gs[i].map V.int))) D2 (.lst (vs ++ [.ref q]))) D2) := fun b o e _ => by
          obtain ⟨h1, h2⟩ := del_some e
          rw [del_ne h1, upd_ne h1, upd_ne (ne_of_none h2 hq)]
          exact h2
        rw [take_more hi', List.map_append]
        refine (hd4.mv e0).snoc (.tup (xs := gs[i].map V.int) (SqT.of ?_) (dpAll_ints K _ _))
        rw [del_ne nqD, upd_ne nqD, upd_same]
      rintro H11 ⟨vs, hD4, hd4, s11⟩
      rw [List.length_map, lr, List.take_length] at hd4
      refine ⟨D2, vs, rfl, Or.inl ⟨SqL.of hD4, fun q hq => ?_⟩⟩
      have s12 : Same H10 (L2.upd H11 q (.tup vs)) := s11.trans (same_new hq)
      have hT : Dp K (L2.upd H11 q (.tup vs)) (.ref q) (rowsIT gs) := .tup (SqT.of upd_same) (hd4.mv ((Kl.undel _ _).trans (Kl.same (same_new hq))))
      generalize L2.upd H11 q (.tup vs) = H12 at s12 hT ⊢
      clear hd4 hD4 hq s11
      refine ⟨rowsIT gs, rowsIT gs, hRm.mv (Kl.same s12), hT, shaped_rowsIT _, shaped_rowsIT _, _, rfl, ite2 (fun c => absurd c (by rw [eqv_rowsIT]; simp)) (fun _ => ?_)⟩
      have ht12 := s12 _ _ ht10
      have hG12 := s12 _ _ hG10
      have hSh12 := hSh.same s12
      refine ⟨_, rfl, x, C, dx, _, _, rfl, s12 _ _ hx10, T.cl, T.nG, sf_good _ _ _, _, rfl, t, _, 2, .ref G, rfl, rfl, SqT.of ht12, rfl, G, es, rfl, SqL.of hG12, by omega, fun q1 n hq1 hn => ?_⟩
      refine ⟨q1, _, n, rfl, upd_same, by omega, fun ms q2 hu hm hnl hq2 => ?_⟩
      refine ⟨q2, _, rfl, Or.inl ⟨SqL.of upd_same, fun q3 hq3 => ?_⟩⟩
      have hfe : fe = ms := up_ext hu1 hu fun y => by rw [hm1 y, hm y, decide_eq_true_eq]
      have s13 := ((same_new (o := SetO w q1 (fun j => decide (j ∈ es)) n) hq1).trans (same_new (o := .lst (ms.map V.int)) hq2)).trans (same_new (o := .tup (ms.map V.int)) hq3)
      refine ⟨intsT fe, intsT ms, (hEm.mv (Kl.same s12)).mv (Kl.same s13), .tup (SqT.of upd_same) (dpAll_ints K _ _), shaped_intsT _, shaped_intsT _, _, rfl, ite2 (fun c => absurd c (by rw [eqv_intsT, hfe]; simp)) (fun _ => ?_)⟩
      have s14 := s12.trans s13
      change tTest _ _ (L2.upd (L2.upd (L2.upd H12 q1 (SetO w q1 (fun j => decide (j ∈ es)) n)) q2 (.lst (ms.map V.int))) q3 (.tup (ms.map V.int))) _
      generalize L2.upd (L2.upd (L2.upd H12 q1 (SetO w q1 (fun j => decide (j ∈ es)) n)) q2 (.lst (ms.map V.int))) q3 (.tup (ms.map V.int)) = H13 at s14 ⊢
      clear s13 hq3 hq2 hq1 hfe hu hm hnl hSh12 hG12 ht12 s12 hT
      refine ⟨_, rfl, x, dx, _, rfl, s14 _ _ hx10, x, z, gs, fe, rfl, hSh.same s14, fun H15 s15 => ⟨gs.length, rfl, Nat.le_of_lt (small1000 (by omega)), ?_⟩⟩
      have s16 := s14.trans s15
      refine ⟨_, rfl, t, _, 1, .ref R, rfl, rfl, SqT.of (s16 _ _ ht10), rfl, _, _, rfl, Or.inl ⟨_, SqL.of (s16 _ _ hR10), rfl⟩, rfl, _, rfl, ite2 (fun c => absurd c (by rw [List.length_map, lr]; simp)) (fun _ => ?_)⟩
      have hM16 : MadeAt K C H15 x z gs es := ⟨fe, hu1, hm1, hSh.same s16⟩
      have hS16 := hS10.same s16
      have hp16 := hp10.same s16
      clear hSh hx10 hRm hEm hS10 hp10 ht10 hR10 hG10 hrs10 s14 s15 s16
      -- columns
      refine ⟨_, rfl, z, 3, rfl, hz3, by decide, fun Ca H17 s17 hCa => ⟨4, rfl, by decide, by decide, fun Y hY => lc_range (lo := 0) (n := 4) (fun j H18 => ∃ ys : List Str, H18 Y = some (.lst (ys.map V.str)) ∧ ys.length = j ∧ (∀ y ∈ ys, ∀ x ∈ TL.tl y, x ∈ TL.tl z) ∧ Pen H18 p c (i * 4000 + 1 + m + 100 + j * 300) ∧ Kp p H17 H18)
        ⟨[], upd_same, rfl, (fun y hy => nomatch hy), (hp16.same s17).same (same_new hY), Kp.of (same_new hY)⟩ ?_ ?_⟩⟩
      · rintro j H18 hj ⟨ys, hY18, hyl, hyz, hp18, k18⟩
        obtain ⟨nYp, nYc⟩ := (hp16.same s17).new hY
        refine ⟨rfl, ?_⟩
        refine lcYes ?_
        refine ⟨_, rfl, _, rfl, p, c, z, 8, _, rfl, hp18, by omega, by decide, by omega, by omega, fun y H19 hy8 hyL hp19 k19 => ?_⟩
        have hY19 := k19 _ _ hY18 nYp
        refine ⟨_, hY19, by rw [List.length_map]; exact small1000 (by omega), ys ++ [y], by rw [upd_same, List.map_append]; rfl, by rw [List.length_append, hyl]; rfl, fun y' hy' => ?_, (hp19.put nYp nYc).mono (by omega), (k18.trans k19).put hY⟩
        rcases List.mem_append.mp hy' with h | h
        · exact hyz y' h
        · rw [List.mem_singleton.mp h]; exact hyL
      rintro H18 ⟨ys, hY18, hyl, hyz, hp18, k18⟩
      obtain ⟨kv16, hk16⟩ := id hp16.dk
      obtain ⟨kv17, hk17⟩ := id (hp16.same s17).dk
      have hCa18 := k18 _ _ hCa (ne_of hCa hk17 (fun z => nomatch z))
      have k168 : Kp p H15 H18 := (Kp.of s17).trans k18
      have hM18 := hM16.kp k168 hk16
      have hS18 := hS16.kp k168 hk16
      have hcl := cols_le (L := TL.tl z) (by rw [← TL.len_tl]; exact hz3) (i := 3) (by decide)
      refine ⟨Ca, Y, _, _, rfl, rfl, hCa18, hY18, by rw [List.length_map, List.length_map]; exact big20 (by omega), fun Z hZ => ?_⟩
      have eZ : ((cols (TL.tl z) 3).map fun l => V.str (mkS l)) ++ ys.map V.str = ((cols (TL.tl z) 3).map mkS ++ ys).map V.str := by rw [List.map_append, List.map_map]; rfl
      rw [eZ]
      have hall : ∀ y ∈ (cols (TL.tl z) 3).map mkS ++ ys, ∀ x ∈ TL.tl y, x ∈ TL.tl z := fun y hy => by
        rcases List.mem_append.mp hy with h | h
        · obtain ⟨l, hl, rfl⟩ := List.mem_map.mp h
          rw [tl_mkS]
          exact (cols_mem hl).2
        · exact hyz y h
      generalize (cols (TL.tl z) 3).map mkS ++ ys = zs at hall ⊢
      have s19 : Same H18 (L2.upd H18 Z (.lst (zs.map V.str))) := same_new hZ
      have hZ19 : (L2.upd H18 Z (.lst (zs.map V.str))) Z = some (.lst (zs.map V.str)) := upd_same
      generalize L2.upd H18 Z (.lst (zs.map V.str)) = H19 at s19 hZ19 ⊢
      have hM19 := hM18.same s19
      have hS19 := hS18.same s19
      have hp19 := hp18.same s19
      clear hM18 hS18 hp18 hM16 hS16 hp16 eZ hcl hCa18 hCa k168 k18 hk16 hk17 s17 s19 hyl hyz hY18 hZ
      refine ⟨_, rfl, Z, _, rfl, Or.inl (SqL.of hZ19), fun J4 hJ4 => for_it hJ4 (fun j σ H20 => ∃ v9 v10 : Option V, σ = [some (.ref a), some (.ref p), some (.int (0 + i)), some (.str z), some (.ref t), some (.ref D), some (.ref A2), some (.ref x), some (.ref Z), v9, v10, v11, v12, v13, v14, v15, v16] ∧ Same H19 H20)
        ⟨v9, v10, rfl, Same.refl _⟩ (fun j σ H20 _ ⟨_, _, _, s20⟩ => GSq.same s20) ?_ ?_⟩
      · rintro j xv σ H21 H20 hj ⟨v9, v10, rfl, s20⟩ ⟨rfl, hxv⟩
        rw [List.length_map] at hj
        obtain rfl : V.str (zs[j]) = xv := by
          rw [List.getElem?_map, List.getElem?_eq_getElem hj] at hxv
          exact Option.some.inj hxv
        have hy := hall _ (List.getElem_mem hj)
        have hstr : strange z zs[j] = none := strange_of hy
        obtain ⟨f2, hu2, hm2, hSh2⟩ := hM19.same s20
        obtain ⟨dx2, R2, E2, hx2, _⟩ := id hSh2
        refine ⟨_, rfl, x, dx2, _, rfl, hx2, sf_no _ _ _ (by decide +kernel) (by decide +kernel) (by decide +kernel), _, rfl, x, z, zs[j], gs, f2, rfl, hSh2, hg, (fun ⟨i, hi⟩ => absurd hi (by rw [hstr]; exact fun e => nomatch e)), fun _ H22 s22 => ?_⟩
        have s222 := s20.trans s22
        refine ⟨_, rfl, _, _, _, _, _, rfl, .ty "bool", .base (.bl _), T.kb, true, rfl, ?_⟩
        refine ite2 (fun c => absurd c (by decide)) (fun _ => ?_)
        refine ⟨_, rfl, _, rfl, _, rfl, t, z, zs[j], gs, es, rfl, hS19.same s222, hg, by omega, hy, fun H23 s23 => ⟨rfl, _, rfl, ite2 (fun c => absurd c ?_) (fun _ => ⟨_, _, rfl, s222.trans s23⟩)⟩⟩
        have e : decide (walkG gs (TL.tl z) 0 (TL.tl zs[j]) ∈ f2) = decide (walkG gs (TL.tl z) 0 (TL.tl zs[j]) ∈ es) := by rw [Bool.eq_iff_iff, decide_eq_true_eq, decide_eq_true_eq]; exact hm2 _
        rw [e]
        simp
      rintro σ H20 ⟨v9, v10, rfl, s20⟩
      have hM20 := hM19.same s20
      have hS20 := hS19.same s20
      have hp20 := hp19.same s20
      clear hM19 hS19 hp19 s20 hZ19 hall
      obtain ⟨s0, hs0, hs0z⟩ := first_odd hzc
      refine ⟨"mxy7", rfl, fun D4 hD4 => lc_it walk_strS (fun j H5 => H5 D4 = some (.lst (((((TL.tl "mxy7").take j).filter (niN z)).map sg).map V.str)) ∧ Same H20 H5) ⟨upd_same, same_new hD4⟩ (fun _ _ _ _ => trivial) ?_ ?_⟩
      · rintro j x H2 H1 hj ⟨hD1, s1⟩ ⟨rfl, cc, hcc, rfl⟩
        obtain ⟨hjl, hje⟩ := List.getElem?_eq_some_iff.mp hcc
        have h4 : (TL.tl "mxy7").length = 4 := by decide +kernel
        have hlen : (((((TL.tl "mxy7").take j).filter (niN z)).map sg).map V.str).length < sizeLine := by
          rw [List.length_map, List.length_map]
          have h1 := List.length_filter_le (niN z) ((TL.tl "mxy7").take j)
          rw [List.length_take] at h1
          exact small1000 (by omega)
        refine ⟨rfl, ?_⟩
        refine ⟨_, rfl, _, rfl, cc, z, rfl, rfl, _, rfl, ite2 (fun c => ?_) (fun c => ?_)⟩
        · have c : ¬ cc ∈ TL.tl z := by simpa using c
          refine ⟨_, rfl, _, hD1, hlen, ?_, s1.put hD4⟩
          rw [upd_same, take_more hjl, hje, List.filter_append, List.filter_cons_of_pos (niN_t c), List.filter_nil, List.map_append, List.map_append]; rfl
        · have c : cc ∈ TL.tl z := by simpa using c
          refine ⟨?_, s1⟩
          rw [take_more hjl, hje, List.filter_append, List.filter_cons_of_neg (niN_f c), List.filter_nil, List.append_nil]
          exact hD1
      rintro H21 ⟨hD21, s21⟩
      rw [TL.len_tl, List.take_length] at hD21
      refine ⟨D4, _, 0, .str (sg s0), rfl, rfl, SqL.of hD21, at_of' (show (0 : Int) = ((0 : Nat) : Int) from rfl) (by rw [List.getElem?_map, List.getElem?_map, hs0]; rfl), ?_⟩
      have hM21 := hM20.same s21
      have hS21 := hS20.same s21
      have hp21 := hp20.same s21
      clear hM20 hS20 hp20 hD21 hs0 hD4 s21
      refine ⟨_, rfl, _, rfl, p, c, z, 4, _, rfl, hp21, by omega, by decide, by omega, by omega, fun y H22 hy4 hyL hp22 k22 => ?_⟩
      obtain ⟨kv21, hk21⟩ := id hp21.dk
      have hM22 := hM21.kp k22 hk21
      have hS22 := hS21.kp k22 hk21
      clear hM21 hS21 hp21 hk21 k22
      have hys : y.length ≤ sizeLine := Nat.le_of_lt (small1000 (by omega))
      refine ⟨_, rfl, _, rfl, _, _, rfl, ⟨hys, rfl⟩, _, _, rfl, rfl, p, c, _, _, rfl, hp22, by omega, by omega, by omega, fun at_ H23 a0 a1 hp23 k23 => ?_⟩
      obtain ⟨kv22, hk22⟩ := id hp22.dk
      have hM23 := hM22.kp k23 hk22
      have hS23 := hS22.kp k23 hk22
      clear hM22 hS22 hp22 hk22 k23
      obtain ⟨an, rfl⟩ : ∃ an : Nat, at_ = an := ⟨at_.toNat, by omega⟩
      have t1 : TL.tl (cutS y none (some (an : Int))) = (TL.tl y).take an := cut_to (by omega)
      have t2 : TL.tl (cutS y (some (an : Int)) none) = (TL.tl y).drop an := cut_from (by omega)
      have l1 : (cutS y none (some (an : Int))).length ≤ 4 := by
        rw [TL.len_tl, t1, List.length_take, ← TL.len_tl]; omega
      have l2 : (cutS y (some (an : Int)) none).length ≤ 4 := by
        rw [TL.len_tl, t2, List.length_drop, ← TL.len_tl]; omega
      obtain ⟨f2, hu2, hm2, hSh2⟩ := id hM23
      obtain ⟨dx2, R2, E2, hx2, _⟩ := id hSh2
      refine ⟨_, rfl, x, dx2, _, rfl, hx2, sf_no _ _ _ (by decide +kernel) (by decide +kernel) (by decide +kernel), _, rfl, _, rfl, _, rfl, y, rfl, hys, _, rfl, _, _, rfl, rfl, ?_, ?_⟩
      · have : (sg s0).length = 1 := rfl
        exact Nat.le_of_lt (small1000 (by omega))
      have hw0 : s0 ∈ TL.tl (cutS y none (some (an : Int)) ++ sg s0 ++ cutS y (some (an : Int)) none) := by
        rw [TL.tl_append, TL.tl_append]
        exact List.mem_append_left _ (List.mem_append_right _ List.mem_cons_self)
      have hbad := strange_bad hw0 hs0z
      refine ⟨_, rfl, _, rfl, _, rfl, y, rfl, hys, _, _, rfl, rfl, ?_, ?_⟩
      · rw [Str.length_append]
        have : (sg s0).length = 1 := rfl
        exact Nat.le_of_lt (small1000 (by omega))
      refine ⟨x, z, _, gs, f2, rfl, hSh2, hg, fun _ H24 s24 => ?_, fun h => absurd h (by obtain ⟨i', hi'⟩ := hbad; rw [hi']; exact fun e => nomatch e)⟩
      have hM24 := hM23.same s24
      have hS24 := hS23.same s24
      have hp24 := hp23.same s24
      clear hSh2 hx2 hm2 hu2 hM23 hS23 hp23 s24 hbad hw0
      refine ⟨false, false, rfl, rfl, _, rfl, ite2 (fun c => absurd c (by decide)) (fun _ => ?_)⟩
      refine ⟨_, rfl, _, rfl, _, rfl, x, p, c, t, z, gs, es, _, rfl, hM24, hS24, hg, hes, hel0, by omega, hz1, hz3, by omega, hp24, by omega, fun H25 hp25 k25 => ⟨_, rfl, ite2 (fun c => absurd c (by decide)) (fun _ => ?_)⟩⟩
      obtain ⟨kv24, hk24⟩ := id hp24.dk
      have hS25 := hS24.kp k25 hk24
      clear hM24 hS24 hp24 hk24 k25
      refine ⟨_, rfl, _, rfl, p, c, t, z, gs, es, _, rfl, hp25, by omega, hS25, hgp, by omega, hz1, hz3, by omega, (fun r hr => by obtain ⟨j, hj, rfl⟩ := List.getElem_of_mem hr; have := (good_row hg hj).1; omega), fun Tt Rb Gb gsb esb due H26 hTt hRb hGb hgbl hrbl hebl hdue hp26 k26 => ?_⟩
      refine ⟨Tt, _, rfl, SqT.of hTt, rfl, _, _, rfl, _, _, rfl, _, _, rfl, rfl, ?_⟩
      refine ⟨_, rfl, _, rfl, _, rfl, z, .ref Rb, Gb, gsb, esb, due, rfl, Or.inl hRb, SqL.of hGb, by omega, by omega, by omega, (fun r hr => by have := hrbl r hr; omega), hdue, fun hd H27 s27 => ?_, fun i1 hd tt1 H27 s27 htt1 => ?_⟩
      · subst hd
        have hp27 := hp26.same s27
        refine ⟨_, rfl, rfl, _, rfl, ite2 (fun _ => ?_) (fun c => absurd (by decide) c)⟩
        refine ⟨.none, .none, .non, .non, shaped_none, shaped_none, _, rfl, ite2 (fun c => absurd c (by rw [eqv_none]; simp)) (fun _ => ?_)⟩
        refine ⟨_, rfl, by show 0 ≤ sizeLine; decide, fun q1 hq1 => ⟨by show 0 ≤ sizeLine; decide, fun q2 hq2 => ?_⟩⟩
        have hq12 : (L2.upd (L2.upd H27 q1 (.lst [])) q2 (.lst [])) q1 = some (.lst []) := same_new hq2 _ _ upd_same
        have s28 : Same H27 (L2.upd (L2.upd H27 q1 (.lst [])) q2 (.lst [])) := (same_new hq1).trans (same_new hq2)
        refine ⟨z, .ref q1, q2, [], [], some 0, rfl, Or.inl (Dp.lst (xs := []) (SqL.of hq12) .nil), SqL.of upd_same, by omega, by show 0 ≤ 100; decide, by show 0 < 64; decide, (fun r hr => nomatch hr), Or.inl ⟨0, rfl, Or.inr ⟨rfl, rfl⟩⟩, (fun h => nomatch h), fun i' hi' tt H29 s29 htt => ?_⟩
        obtain rfl := Option.some.inj hi'
        refine ⟨by show 3 ≤ sizeLine; decide, fun q3 hq3 => ⟨dueD 0, dueD 0, dp_due (same_new hq3 _ _ htt), dp_due upd_same, shaped_dueD _, shaped_dueD _, _, rfl, ite2 (fun c => absurd c (by rw [eqv_dueD]; simp)) (fun _ => ?_)⟩⟩
        exact ⟨_, _, _, _, _, _, _, _, _, _, _, _, _, _, _, rfl, ((hp27.same (s28.trans s29)).same (same_new hq3)).mono (by omega)⟩
      · subst hd
        have hp27' := hp26.same s27
        refine ⟨_, rfl, rfl, _, rfl, ite2 (fun c => absurd c (by simp [dueV])) (fun _ => ?_)⟩
        refine ⟨_, rfl, by show 3 ≤ sizeLine; decide, fun q0 hq0 => ⟨dueD i1, dueD i1, dp_due (same_new hq0 _ _ htt1), dp_due upd_same, shaped_dueD _, shaped_dueD _, _, rfl, ite2 (fun c => absurd c (by rw [eqv_dueD]; simp)) (fun _ => ?_)⟩⟩
        have hp27 := hp27'.same (same_new (o := .tup [.int i1, .bl true, .bl false]) hq0)
        change tSeq _ _ _ _ (L2.upd H27 q0 (.tup [.int i1, .bl true, .bl false]))
        generalize L2.upd H27 q0 (.tup [.int i1, .bl true, .bl false]) = H27 at hp27 ⊢
        refine ⟨_, rfl, by show 0 ≤ sizeLine; decide, fun q1 hq1 => ⟨by show 0 ≤ sizeLine; decide, fun q2 hq2 => ?_⟩⟩
        have hq12 : (L2.upd (L2.upd H27 q1 (.lst [])) q2 (.lst [])) q1 = some (.lst []) := same_new hq2 _ _ upd_same
        have s28 : Same H27 (L2.upd (L2.upd H27 q1 (.lst [])) q2 (.lst [])) := (same_new hq1).trans (same_new hq2)
        refine ⟨z, .ref q1, q2, [], [], some 0, rfl, Or.inl (Dp.lst (xs := []) (SqL.of hq12) .nil), SqL.of upd_same, by omega, by show 0 ≤ 100; decide, by show 0 < 64; decide, (fun r hr => nomatch hr), Or.inl ⟨0, rfl, Or.inr ⟨rfl, rfl⟩⟩, (fun h => nomatch h), fun i' hi' tt H29 s29 htt => ?_⟩
        obtain rfl := Option.some.inj hi'
        refine ⟨by show 3 ≤ sizeLine; decide, fun q3 hq3 => ⟨dueD 0, dueD 0, dp_due (same_new hq3 _ _ htt), dp_due upd_same, shaped_dueD _, shaped_dueD _, _, rfl, ite2 (fun c => absurd c (by rw [eqv_dueD]; simp)) (fun _ => ?_)⟩⟩
        exact ⟨_, _, _, _, _, _, _, _, _, _, _, _, _, _, _, rfl, ((hp27.same (s28.trans s29)).same (same_new hq3)).mono (by omega)⟩
    · rintro σ H2 _
      exact k _
end
end Vf
set_option Elab.async false
set_option linter.all false
set_option maxRecDepth 100000
set_option maxHeartbeats 4000000
/-! raise C(): an own class over an own class over ValueError, without __init__, without arguments -/
namespace Vf
open PySem L2 PyProof.Rows
theorem pmk_own0 {X : Cx} {C : Addr} {bmB : List Value} {B newId initId : String} {x : Str} {p pos : Pos} (F : ExcBaseFacts B newId initId bmB) (q : PySem.W.excIn X.K C bmB newId = true) (gC : X.mg x = some (.ref C)) (kC : PySem.W.keepIn X.K (.ref C) = true) (r : Raises X (.ref C)) (hg : Gl X x)
    (hdb : (x == ("__debug__" : Str)) = false := by decide) : PMk X (.Call (.Name x p) [] [] pos) (fun _ H Q => Q (.ref C) none H) := by
  intro pins s σ H Q I h
  refine wpAny_Call_Name_kw (ld_glob I hg gC ?_ hdb)
  obtain ⟨hp1, g1, d1, tk1, os1⟩ := s
  refine PySem.W.callWith_K0 (first := []) I.kIn kC ?_
  obtain ⟨bm, N, nm, qn, bs, hdct, sn, sub, ab, col, dd, k0, k1, k2, k3, k5, mN, hC, hN, hni, T⟩ := exc_obj I.kIn q
  refine wpAny_call_exc_subT F T hC hN hni (fun h' e hm => ?_) (Nat.zero_le _)
  exact mk_of I hm r h (I.hok.gone hm.new)
/-- what is asked of such a class -/
structure PlainE (K : PySem.W.Frag) (mg : Str → Option Value) (x : Str) (C : Addr) (bmB : List Value) (newId : String) : Prop where
  q : PySem.W.excIn K C bmB newId = true
  g : mg x = some (.ref C)
  k : PySem.W.keepIn K (.ref C) = true
  s : PySem.W.subIn K (.ref C) (.type "BaseException") = some true
  t : PySem.W.typeIn K (.ref C) = some (.type "type")
theorem pmk_plain {X : Cx} {C : Addr} {bmB : List Value} {B newId initId : String} {x : Str} {p pos : Pos} (F : ExcBaseFacts B newId initId bmB) (T : PlainE X.K X.mg x C bmB newId) (hg : Gl X x) (hdb : (x == ("__debug__" : Str)) = false := by decide) : PMk X (.Call (.Name x p) [] [] pos) (fun _ H Q => Q (.ref C) none H) :=
  pmk_own0 F T.q T.g T.k (raises_own T.s T.t) hg hdb
end Vf
namespace Vf
open PySem L2 PyProof.Rows
/-- a call without arguments of a function that a name holds, in a try: the promise depends on the slots -/
def tCallV0V (i : Nat) (f : Addr) (S : Hp → Prop) (sp : Sp) (E : L2.St → XK) : TE := fun σ H Q => σ[i]? = some (some (.ref f)) ∧ S H ∧ sp [] H Q (E σ)
theorem pe_callV0V {X : Cx} {CX : CXT} {i k : Nat} {f : Addr} {S : Hp → Prop} {sp : Sp} {E : L2.St → XK} {x : Str} {p pos : Pos} (F : FV X.prog X.w X.K X.mg X.base CX k f S sp) (hr : Room k X.A) (hx : ∀ σ, PassesAt CX X σ (E σ)) (hN : X.N[i]? = some x) (hv : Vis X.env.scope x)
    (hd : (x == ("__debug__" : Str)) = false := by decide) (hcd : (x == ("__classdict__" : Str)) = false := by decide) : PE X (.Call (.Name x p) [] [] pos) (tCallV0V i f S sp E) := by
  refine ⟨fun pins s σ H Q I h => ?_⟩
  obtain ⟨hs, hS, q⟩ := h
  refine wpAny_Call_Name_kw (thn ((pe_var (pos := p) hN hv hd hcd).run pins s σ H (fun v H1 => v = .ref f ∧ H1 = H) I ⟨.ref f, hs, rfl, rfl⟩) fun u s1 ⟨v, H1, I1, r1, q1⟩ => ?_)
  obtain ⟨ev, eH⟩ := q1
  subst ev
  rw [eH] at I1
  have r1' : u = Value.ref f := r1
  subst r1'
  refine PySem.W.callWith_F0 (first := []) (F.fn H s1.heap I1.kIn I1.hok hS) ?_
  refine wpAny_call (codeAny_mono (F.run X.A X.stack s1 H [] [] Q (E σ) hr I1.env0 hS .nil q) fun rr s' hq => ?_)
  rcases rr with er | fl
  · exact hx σ pins H s1 er s' I1 hq
  · cases fl with
    | ret u => exact I1.after hq
    | next => exact hq.elim
    | brk => exact hq.elim
    | cont => exact hq.elim
end Vf
set_option Elab.async false
set_option linter.all false
set_option maxRecDepth 100000
set_option maxHeartbeats 4000000
namespace Vf
open PySem L2 PyProof.Rows
theorem kit_self {K : PySem.W.Frag} (C : Addr) : PySem.W.kitOne K (.ref C) (.ref C) = some true := by
  unfold PySem.W.kitOne
  rw [if_pos (by simp)]
theorem kit_tupC {K : PySem.W.Frag} {C : Addr} (h : PySem.W.hasDictIn K C = true) (ht : PySem.W.typeIn K (.ref C) = some (.type "type")) (hs : PySem.W.subIn K (.type "tuple") (.ref C) = some false) : PySem.W.kitOne K (.type "tuple") (.ref C) = some false := by
  have hc : (PySem.W.clsIn K C).isSome = true := by
    unfold PySem.W.hasDictIn at h
    cases e : PySem.W.clsIn K C with
    | none => rw [e] at h; cases h
    | some c => rfl
  unfold PySem.W.kitOne
  rw [if_neg (by intro q; have := beq_iff_eq.mp q; cases this)]
  have e2 : ((PySem.W.clsIn K C).isSome && PySem.W.typeIn K (.ref C) == some (.type "type")) = true := by rw [hc, ht] <;> rfl
  show (if ((PySem.W.clsIn K C).isSome && PySem.W.typeIn K (.ref C) == some (.type "type")) = true then PySem.W.subIn K (.type "tuple") (.ref C) else none) = some false
  rw [if_pos e2]
  exact hs
theorem kit_sub {K : PySem.W.Frag} {D C : Addr} (h : PySem.W.hasDictIn K C = true) (ht : PySem.W.typeIn K (.ref C) = some (.type "type")) (ne : D ≠ C) {b : Bool} (hs : PySem.W.subIn K (.ref D) (.ref C) = some b) : PySem.W.kitOne K (.ref D) (.ref C) = some b := by
  have hc : (PySem.W.clsIn K C).isSome = true := by
    unfold PySem.W.hasDictIn at h
    cases e : PySem.W.clsIn K C with
    | none => rw [e] at h; cases h
    | some c => rfl
  unfold PySem.W.kitOne
  rw [if_neg (by intro q; exact ne (Value.ref.inj (beq_iff_eq.mp q)))]
  have e2 : ((PySem.W.clsIn K C).isSome && PySem.W.typeIn K (.ref C) == some (.type "type")) = true := by rw [hc, ht] <;> rfl
  show (if ((PySem.W.clsIn K C).isSome && PySem.W.typeIn K (.ref C) == some (.type "type")) = true then PySem.W.subIn K (.ref D) (.ref C) else none) = some b
  rw [if_pos e2]
  exact hs
theorem kit_strC {K : PySem.W.Frag} {C : Addr} (h : PySem.W.hasDictIn K C = true) (ht : PySem.W.typeIn K (.ref C) = some (.type "type")) (hs : PySem.W.subIn K (.type "str") (.ref C) = some false) : PySem.W.kitOne K (.type "str") (.ref C) = some false := by
  have hc : (PySem.W.clsIn K C).isSome = true := by
    unfold PySem.W.hasDictIn at h
    cases e : PySem.W.clsIn K C with
    | none => rw [e] at h; cases h
    | some c => rfl
  unfold PySem.W.kitOne
  rw [if_neg (by intro q; have := beq_iff_eq.mp q; cases this)]
  have e2 : ((PySem.W.clsIn K C).isSome && PySem.W.typeIn K (.ref C) == some (.type "type")) = true := by rw [hc, ht] <;> rfl
  show (if ((PySem.W.clsIn K C).isSome && PySem.W.typeIn K (.ref C) == some (.type "type")) = true then PySem.W.subIn K (.type "str") (.ref C) else none) = some false
  rw [if_pos e2]
  exact hs
theorem all_at {l : PySem.W.OpenLaw} {w : World} {K : PySem.W.Frag} {h : Heap} {mg : Str → Option Value} {fa fD fP fPen fLe fSh fCs fCn fHD fR fLi fBe fRf fCG fCD fSP fLaw fI fLn fEq fSr fHas fSt fBC C CB CU B  : Addr}
    {odD anD : Option Addr} {slD : Array (Option Value)} {ocD kVD dcD pmD ctD : Value} {cdD : Value}
    {odP anP : Option Addr} {slP : Array (Option Value)} {ocP kVP dcP pmP ctP : Value} {cdP : Value}
    {odPen anPen : Option Addr} {slPen : Array (Option Value)} {ocPen kVPen dcPen pmPen ctPen : Value} {cdPen : Value}
    {odLe anLe : Option Addr} {slLe : Array (Option Value)} {ocLe kVLe dcLe pmLe ctLe : Value} {cdLe : Value}
    {odSh anSh : Option Addr} {slSh : Array (Option Value)} {ocSh kVSh dcSh pmSh ctSh : Value} {cdSh : Value}
    {odCs anCs : Option Addr} {slCs : Array (Option Value)} {ocCs kVCs dcCs pmCs ctCs : Value} {cdCs : Value}
    {odCn anCn : Option Addr} {slCn : Array (Option Value)} {ocCn kVCn dcCn pmCn ctCn : Value} {cdCn : Value}
    {odHD anHD : Option Addr} {slHD : Array (Option Value)} {ocHD kVHD dcHD pmHD ctHD : Value} {cdHD : Value}
    {odR anR : Option Addr} {slR : Array (Option Value)} {ocR kVR dcR pmR ctR : Value} {cdR : Value}
    {odLi anLi : Option Addr} {slLi : Array (Option Value)} {ocLi kVLi dcLi pmLi ctLi : Value} {cdLi : Value}
    {odBe anBe : Option Addr} {slBe : Array (Option Value)} {ocBe kVBe dcBe pmBe ctBe : Value} {cdBe : Value}
    {odRf anRf : Option Addr} {slRf : Array (Option Value)} {ocRf kVRf dcRf pmRf ctRf : Value} {cdRf : Value}
    {odCG anCG : Option Addr} {slCG : Array (Option Value)} {ocCG kVCG dcCG pmCG ctCG : Value} {cdCG : Value}
    {odCD anCD : Option Addr} {slCD : Array (Option Value)} {ocCD kVCD dcCD pmCD ctCD : Value} {cdCD : Value}
    {odSP anSP : Option Addr} {slSP : Array (Option Value)} {ocSP kVSP dcSP pmSP ctSP : Value} {cdSP : Value}
    {odLaw anLaw : Option Addr} {slLaw : Array (Option Value)} {ocLaw kVLaw dcLaw pmLaw ctLaw : Value} {cdLaw : Value}
    {odI anI : Option Addr} {slI : Array (Option Value)} {ocI kVI dcI pmI ctI : Value} {cdI : Value}
    {odLn anLn : Option Addr} {slLn : Array (Option Value)} {ocLn kVLn dcLn pmLn ctLn : Value} {cdLn : Value}
    {odEq anEq : Option Addr} {slEq : Array (Option Value)} {ocEq kVEq dcEq pmEq ctEq : Value} {cdEq : Value}
    {odSr anSr : Option Addr} {slSr : Array (Option Value)} {ocSr kVSr dcSr pmSr ctSr : Value} {cdSr : Value}
    {odHas anHas : Option Addr} {slHas : Array (Option Value)} {ocHas kVHas dcHas pmHas ctHas : Value} {cdHas : Value}
    {odSt anSt : Option Addr} {slSt : Array (Option Value)} {ocSt kVSt dcSt pmSt ctSt : Value} {cdSt : Value}
    {odBC anBC : Option Addr} {slBC : Array (Option Value)} {ocBC kVBC dcBC pmBC ctBC : Value} {cdBC : Value}
    {ebnm ebq : Str} {ebN : Addr} {ebbs : List Value} {ebsn : List Str} {ebsub : List Value} {ebab : Bool} {ebcol : Option Bool} {ebdd : Option Addr} {ebm0 ebm1 ebm2 ebm3 ebm5 : Option Value}
    (X : K.In h) (G : h.Ns mainGlobals mg) (hfa : mg "law" = some (.ref fa))
    (aD : PySem.W.nsIn K mainGlobals "_law_draw" = some (some (.ref fD)))
    (lD : K.lookup fD = some ⟨ocD, odD, .func (PySem.W.fnOf "_law_draw" "_law_draw" (defArgs s__law_draw) (defBody s__law_draw) (defScope s__law_draw) .none kVD dcD pmD anD cdD ctD), slD⟩) (cD : PySem.W.codeIn K cdD "_law_draw" = true) (kD : PySem.W.keepIn K (.ref fD) = true)
    (aP : PySem.W.nsIn K mainGlobals "_law_pick" = some (some (.ref fP)))
    (lP : K.lookup fP = some ⟨ocP, odP, .func (PySem.W.fnOf "_law_pick" "_law_pick" (defArgs s__law_pick) (defBody s__law_pick) (defScope s__law_pick) .none kVP dcP pmP anP cdP ctP), slP⟩) (cP : PySem.W.codeIn K cdP "_law_pick" = true) (kP : PySem.W.keepIn K (.ref fP) = true)
    (aPen : PySem.W.nsIn K mainGlobals "_law_pen" = some (some (.ref fPen)))
    (lPen : K.lookup fPen = some ⟨ocPen, odPen, .func (PySem.W.fnOf "_law_pen" "_law_pen" (defArgs s__law_pen) (defBody s__law_pen) (defScope s__law_pen) .none kVPen dcPen pmPen anPen cdPen ctPen), slPen⟩) (cPen : PySem.W.codeIn K cdPen "_law_pen" = true) (kPen : PySem.W.keepIn K (.ref fPen) = true)
    (aLe : PySem.W.nsIn K mainGlobals "_law_letters" = some (some (.ref fLe)))
    (lLe : K.lookup fLe = some ⟨ocLe, odLe, .func (PySem.W.fnOf "_law_letters" "_law_letters" (defArgs s__law_letters) (defBody s__law_letters) (defScope s__law_letters) .none kVLe dcLe pmLe anLe cdLe ctLe), slLe⟩) (cLe : PySem.W.codeIn K cdLe "_law_letters" = true) (kLe : PySem.W.keepIn K (.ref fLe) = true)
    (aSh : PySem.W.nsIn K mainGlobals "_law_shape" = some (some (.ref fSh)))
    (lSh : K.lookup fSh = some ⟨ocSh, odSh, .func (PySem.W.fnOf "_law_shape" "_law_shape" (defArgs s__law_shape) (defBody s__law_shape) (defScope s__law_shape) .none kVSh dcSh pmSh anSh cdSh ctSh), slSh⟩) (cSh : PySem.W.codeIn K cdSh "_law_shape" = true) (kSh : PySem.W.keepIn K (.ref fSh) = true)
    (aCs : PySem.W.nsIn K mainGlobals "_law_columns" = some (some (.ref fCs)))
    (lCs : K.lookup fCs = some ⟨ocCs, odCs, .func (PySem.W.fnOf "_law_columns" "_law_columns" (defArgs s__law_columns) (defBody s__law_columns) (defScope s__law_columns) .none kVCs dcCs pmCs anCs cdCs ctCs), slCs⟩) (cCs : PySem.W.codeIn K cdCs "_law_columns" = true) (kCs : PySem.W.keepIn K (.ref fCs) = true)
    (aCn : PySem.W.nsIn K mainGlobals "_law_column" = some (some (.ref fCn)))
    (lCn : K.lookup fCn = some ⟨ocCn, odCn, .func (PySem.W.fnOf "_law_column" "_law_column" (defArgs s__law_column) (defBody s__law_column) (defScope s__law_column) .none kVCn dcCn pmCn anCn cdCn ctCn), slCn⟩) (cCn : PySem.W.codeIn K cdCn "_law_column" = true) (kCn : PySem.W.keepIn K (.ref fCn) = true)
    (aHD : PySem.W.nsIn K mainGlobals "_law_has" = some (some (.ref fHD)))
    (lHD : K.lookup fHD = some ⟨ocHD, odHD, .func (PySem.W.fnOf "_law_has" "_law_has" (defArgs s__law_has) (defBody s__law_has) (defScope s__law_has) .none kVHD dcHD pmHD anHD cdHD ctHD), slHD⟩) (cHD : PySem.W.codeIn K cdHD "_law_has" = true) (kHD : PySem.W.keepIn K (.ref fHD) = true)
    (aR : PySem.W.nsIn K mainGlobals "_law_row_right" = some (some (.ref fR)))
    (lR : K.lookup fR = some ⟨ocR, odR, .func (PySem.W.fnOf "_law_row_right" "_law_row_right" (defArgs s__law_row_right) (defBody s__law_row_right) (defScope s__law_row_right) .none kVR dcR pmR anR cdR ctR), slR⟩) (cR : PySem.W.codeIn K cdR "_law_row_right" = true) (kR : PySem.W.keepIn K (.ref fR) = true)
    (aLi : PySem.W.nsIn K mainGlobals "_law_like" = some (some (.ref fLi)))
    (lLi : K.lookup fLi = some ⟨ocLi, odLi, .func (PySem.W.fnOf "_law_like" "_law_like" (defArgs s__law_like) (defBody s__law_like) (defScope s__law_like) .none kVLi dcLi pmLi anLi cdLi ctLi), slLi⟩) (cLi : PySem.W.codeIn K cdLi "_law_like" = true) (kLi : PySem.W.keepIn K (.ref fLi) = true)
    (aBe : PySem.W.nsIn K mainGlobals "_law_bent" = some (some (.ref fBe)))
    (lBe : K.lookup fBe = some ⟨ocBe, odBe, .func (PySem.W.fnOf "_law_bent" "_law_bent" (defArgs s__law_bent) (defBody s__law_bent) (defScope s__law_bent) .none kVBe dcBe pmBe anBe cdBe ctBe), slBe⟩) (cBe : PySem.W.codeIn K cdBe "_law_bent" = true) (kBe : PySem.W.keepIn K (.ref fBe) = true)
    (aRf : PySem.W.nsIn K mainGlobals "_law_refused" = some (some (.ref fRf)))
    (lRf : K.lookup fRf = some ⟨ocRf, odRf, .func (PySem.W.fnOf "_law_refused" "_law_refused" (defArgs s__law_refused) (defBody s__law_refused) (defScope s__law_refused) .none kVRf dcRf pmRf anRf cdRf ctRf), slRf⟩) (cRf : PySem.W.codeIn K cdRf "_law_refused" = true) (kRf : PySem.W.keepIn K (.ref fRf) = true)
    (aCG : PySem.W.nsIn K mainGlobals "check_goals" = some (some (.ref fCG)))
    (lCG : K.lookup fCG = some ⟨ocCG, odCG, .func (PySem.W.fnOf "check_goals" "check_goals" (defArgs s_check_goals) (defBody s_check_goals) (defScope s_check_goals) .none kVCG dcCG pmCG anCG cdCG ctCG), slCG⟩) (cCG : PySem.W.codeIn K cdCG "check_goals" = true) (kCG : PySem.W.keepIn K (.ref fCG) = true)
    (aCD : PySem.W.nsIn K mainGlobals "check_good" = some (some (.ref fCD)))
    (lCD : K.lookup fCD = some ⟨ocCD, odCD, .func (PySem.W.fnOf "check_good" "check_good" (defArgs s_check_good) (defBody s_check_good) (defScope s_check_good) .none kVCD dcCD pmCD anCD cdCD ctCD), slCD⟩) (cCD : PySem.W.codeIn K cdCD "check_good" = true) (kCD : PySem.W.keepIn K (.ref fCD) = true)
    (aSP : PySem.W.nsIn K mainGlobals "strange_place" = some (some (.ref fSP)))
    (lSP : K.lookup fSP = some ⟨ocSP, odSP, .func (PySem.W.fnOf "strange_place" "strange_place" (defArgs s_strange_place) (defBody s_strange_place) (defScope s_strange_place) .none kVSP dcSP pmSP anSP cdSP ctSP), slSP⟩) (cSP : PySem.W.codeIn K cdSP "strange_place" = true) (kSP : PySem.W.keepIn K (.ref fSP) = true)
    (aLaw : PySem.W.nsIn K mainGlobals "law" = some (some (.ref fLaw)))
    (lLaw : K.lookup fLaw = some ⟨ocLaw, odLaw, .func (PySem.W.fnOf "law" "law" (defArgs s_law) (defBody s_law) (defScope s_law) .none kVLaw dcLaw pmLaw anLaw cdLaw ctLaw), slLaw⟩) (cLaw : PySem.W.codeIn K cdLaw "law" = true) (kLaw : PySem.W.keepIn K (.ref fLaw) = true)
    (aI : PySem.W.findIn K (.ref C) "__init__" = some (some (.ref fI))) (iI : PySem.W.isFn K (.ref fI) = true)
    (lI : K.lookup fI = some ⟨ocI, odI, .func (PySem.W.fnOf "__init__" "Shape.__init__" (defArgs s_Shape___init__) (defBody s_Shape___init__) (defScope s_Shape___init__) .none kVI dcI pmI anI cdI ctI), slI⟩) (cI : PySem.W.codeIn K cdI "Shape.__init__" = true) (kI : PySem.W.keepIn K (.ref fI) = true)
    (aLn : PySem.W.findIn K (.ref C) "__len__" = some (some (.ref fLn))) (iLn : PySem.W.isFn K (.ref fLn) = true)
    (lLn : K.lookup fLn = some ⟨ocLn, odLn, .func (PySem.W.fnOf "__len__" "Shape.__len__" (defArgs s_Shape___len__) (defBody s_Shape___len__) (defScope s_Shape___len__) .none kVLn dcLn pmLn anLn cdLn ctLn), slLn⟩) (cLn : PySem.W.codeIn K cdLn "Shape.__len__" = true) (kLn : PySem.W.keepIn K (.ref fLn) = true)
    (aEq : PySem.W.findIn K (.ref C) "__eq__" = some (some (.ref fEq))) (iEq : PySem.W.isFn K (.ref fEq) = true)
    (lEq : K.lookup fEq = some ⟨ocEq, odEq, .func (PySem.W.fnOf "__eq__" "Shape.__eq__" (defArgs s_Shape___eq__) (defBody s_Shape___eq__) (defScope s_Shape___eq__) .none kVEq dcEq pmEq anEq cdEq ctEq), slEq⟩) (cEq : PySem.W.codeIn K cdEq "Shape.__eq__" = true) (kEq : PySem.W.keepIn K (.ref fEq) = true)
    (aSr : PySem.W.findIn K (.ref C) "__str__" = some (some (.ref fSr))) (iSr : PySem.W.isFn K (.ref fSr) = true)
    (lSr : K.lookup fSr = some ⟨ocSr, odSr, .func (PySem.W.fnOf "__str__" "Shape.__str__" (defArgs s_Shape___str__) (defBody s_Shape___str__) (defScope s_Shape___str__) .none kVSr dcSr pmSr anSr cdSr ctSr), slSr⟩) (cSr : PySem.W.codeIn K cdSr "Shape.__str__" = true) (kSr : PySem.W.keepIn K (.ref fSr) = true)
    (aHas : PySem.W.findIn K (.ref C) "has" = some (some (.ref fHas))) (iHas : PySem.W.isFn K (.ref fHas) = true)
    (lHas : K.lookup fHas = some ⟨ocHas, odHas, .func (PySem.W.fnOf "has" "Shape.has" (defArgs s_Shape_has) (defBody s_Shape_has) (defScope s_Shape_has) .none kVHas dcHas pmHas anHas cdHas ctHas), slHas⟩) (cHas : PySem.W.codeIn K cdHas "Shape.has" = true) (kHas : PySem.W.keepIn K (.ref fHas) = true)
    (aSt : PySem.W.findIn K (.ref C) "step" = some (some (.ref fSt))) (iSt : PySem.W.isFn K (.ref fSt) = true)
    (lSt : K.lookup fSt = some ⟨ocSt, odSt, .func (PySem.W.fnOf "step" "Shape.step" (defArgs s_Shape_step) (defBody s_Shape_step) (defScope s_Shape_step) .none kVSt dcSt pmSt anSt cdSt ctSt), slSt⟩) (cSt : PySem.W.codeIn K cdSt "Shape.step" = true) (kSt : PySem.W.keepIn K (.ref fSt) = true)
    (aBC : PySem.W.findIn K (.ref CB) "__init__" = some (some (.ref fBC))) (iBC : PySem.W.isFn K (.ref fBC) = true)
    (lBC : K.lookup fBC = some ⟨ocBC, odBC, .func (PySem.W.fnOf "__init__" "BadCode.__init__" (defArgs s_BadCode___init__) (defBody s_BadCode___init__) (defScope s_BadCode___init__) .none kVBC dcBC pmBC anBC cdBC ctBC), slBC⟩) (cBC : PySem.W.codeIn K cdBC "BadCode.__init__" = true) (kBC : PySem.W.keepIn K (.ref fBC) = true)
    (z_int : PySem.W.nsIn K mainGlobals "int" = some none)
    (z_len : PySem.W.nsIn K mainGlobals "len" = some none)
    (z_list : PySem.W.nsIn K mainGlobals "list" = some none)
    (z_range : PySem.W.nsIn K mainGlobals "range" = some none)
    (z_sorted : PySem.W.nsIn K mainGlobals "sorted" = some none)
    (z_any : PySem.W.nsIn K mainGlobals "any" = some none)
    (z_tuple : PySem.W.nsIn K mainGlobals "tuple" = some none)
    (z_enumerate : PySem.W.nsIn K mainGlobals "enumerate" = some none)
    (z_min : PySem.W.nsIn K mainGlobals "min" = some none)
    (z_set : PySem.W.nsIn K mainGlobals "set" = some none)
    (z_isinstance : PySem.W.nsIn K mainGlobals "isinstance" = some none)
    (z_str : PySem.W.nsIn K mainGlobals "str" = some none)
    (z_bool : PySem.W.nsIn K mainGlobals "bool" = some none)
    (ebC : PySem.W.nsIn K mainGlobals "BadCode" = some (some (.ref CB))) (ebL : K.lookup CB = some (excClassObj ebnm ebq CB ebN ebbs [.ref B, .type "ValueError", .type "Exception", .type "BaseException", .type "object"] true ebsn ebsub ebab ebcol ebdd ebm0 ebm1 ebm2 ebm3 ebm5 "ValueError.__new__"))
    (ebsa : PySem.W.findIn K (.ref CB) "__setattr__" = some (some (.builtin "object.__setattr__"))) (ebex : PySem.W.subIn K (.ref CB) (.type "BaseException") = some true) (ebty : PySem.W.typeIn K (.ref CB) = some (.type "type")) (ebkc : PySem.W.keepIn K (.ref CB) = true)
    (ebtI : PySem.W.typeIn K (.ref fBC) = some (.type "function")) (ebnf : PySem.W.findIn K (.ref CB) "state" = some none)
    (ebga : PySem.W.findIn K (.ref CB) "__getattribute__" = some (some (.builtin "BaseException.__getattribute__"))) (ebgg : PySem.W.findIn K (.ref CB) "__getattr__" = some none) (ebhd : PySem.W.hasDictIn K CB = true) (ebss : PySem.W.subIn K (.ref CB) (.ref CB) = some true)
    (BC : PySem.W.nsIn K mainGlobals "CodeError" = some (some (.ref B))) (Bs0 : PySem.W.specialIn K (.ref B) "__getattribute__" = some (some (.builtin "type.__getattribute__"))) (Br : PySem.W.readsIn K B (.type "type") = true)
    (Bv : PySem.W.findCls K (.ref B) (.type "type") "__init__" = some (.val (.builtin "ValueError.__init__")))
    (euC : PySem.W.nsIn K mainGlobals "Unlike" = some (some (.ref CU))) (euq : PySem.W.excIn K CU [.type "ValueError", .type "Exception", .type "BaseException", .type "object"] "ValueError.__new__" = true) (eukc : PySem.W.keepIn K (.ref CU) = true) (euex : PySem.W.subIn K (.ref CU) (.type "BaseException") = some true) (euty : PySem.W.typeIn K (.ref CU) = some (.type "type")) (euhd : PySem.W.hasDictIn K CU = true) (euss : PySem.W.subIn K (.ref CU) (.ref CU) = some true)
    (cC : PySem.W.nsIn K mainGlobals "Shape" = some (some (.ref C))) (cpg : PySem.W.plainGet K C Str.empty = true) (chd : PySem.W.hasDictIn K C = true) (cpo : PySem.W.plainOver K C = true) (csa : PySem.W.findIn K (.ref C) "__setattr__" = some (some (.builtin "object.__setattr__"))) (cmk : PySem.W.makesIn K C = true) (ckc : PySem.W.keepIn K (.ref C) = true)
    (cnL : PySem.W.findIn K (.ref C) "letters" = some none) (cnR : PySem.W.findIn K (.ref C) "rows" = some none) (cnE : PySem.W.findIn K (.ref C) "good" = some none)
    (qa : PySem.W.findIn K (.ref C) "__class__" = some (some (.builtin "object.__class__"))) (qn : PySem.W.specialIn K (.builtin "object.__class__") "__get__" = some (some (.builtin "getset_descriptor.__get__"))) (qt : PySem.W.takesIn K (.builtin "object.__class__") = some true) (qm : PySem.W.mroIn K C (.type "object") = some true)
    (qy : PySem.W.typeIn K (.ref C) = some (.type "type")) (qs : PySem.W.subIn K (.type "tuple") (.ref C) = some false) (qss : PySem.W.subIn K (.type "str") (.ref C) = some false)
    (ebca : PySem.W.findIn K (.ref CB) "__class__" = some (some (.builtin "object.__class__"))) (ebmo : PySem.W.mroIn K CB (.type "object") = some true)
    (ebu : PySem.W.subIn K (.ref CB) (.ref CU) = some false) (Bhd : PySem.W.hasDictIn K B = true) (Bty : PySem.W.typeIn K (.ref B) = some (.type "type")) (ebB : PySem.W.subIn K (.ref CB) (.ref B) = some true) (nebB : CB ≠ B) (nebU : CB ≠ CU) (kbb : PySem.W.kitOne K (.type "bool") (.type "bool") = some true) :
    ∃ fd : FuncData, (∀ (s : Shared) (v : Value), BindsTo s fd ⟨[v], []⟩ [("_law_script", v)]) ∧ ∀ base : Heap, K.In base → base.Ns mainGlobals mg → FnOk l.prog w K mg base CX0 8 fa fd ["_law_script"] (spLaw K) := by
  have e := hfa.symm.trans (PySem.W.mg_of X G aLaw)
  cases e
  have FD := fun_mk (st := s__law_draw) lD cD kD
  have bD := FD.binds (ps := P__law_draw) fun _ _ _ _ _ _ us hl => match us, hl with | [_, _], _ => rfl
  have FP := fun_mk (st := s__law_pick) lP cP kP
  have bP := FP.binds (ps := P__law_pick) fun _ _ _ _ _ _ us hl => match us, hl with | [_, _], _ => rfl
  have FPen := fun_mk (st := s__law_pen) lPen cPen kPen
  have bPen := FPen.binds (ps := P__law_pen) fun _ _ _ _ _ _ us hl => match us, hl with | [_], _ => rfl
  have FLe := fun_mk (st := s__law_letters) lLe cLe kLe
  have bLe := FLe.binds (ps := P__law_letters) fun _ _ _ _ _ _ us hl => match us, hl with | [_, _], _ => rfl
  have FSh := fun_mk (st := s__law_shape) lSh cSh kSh
  have bSh := FSh.binds (ps := P__law_shape) fun _ _ _ _ _ _ us hl => match us, hl with | [_, _, _], _ => rfl
  have FCs := fun_mk (st := s__law_columns) lCs cCs kCs
  have bCs := FCs.binds (ps := P__law_columns) fun _ _ _ _ _ _ us hl => match us, hl with | [_, _], _ => rfl
  have FCn := fun_mk (st := s__law_column) lCn cCn kCn
  have bCn := FCn.binds (ps := P__law_column) fun _ _ _ _ _ _ us hl => match us, hl with | [_, _, _], _ => rfl
  have FHD := fun_mk (st := s__law_has) lHD cHD kHD
  have bHD := FHD.binds (ps := P__law_has) fun _ _ _ _ _ _ us hl => match us, hl with | [_, _], _ => rfl
  have FR := fun_mk (st := s__law_row_right) lR cR kR
  have bR := FR.binds (ps := P__law_row_right) fun _ _ _ _ _ _ us hl => match us, hl with | [_, _, _], _ => rfl
  have FLi := fun_mk (st := s__law_like) lLi cLi kLi
  have bLi := FLi.binds (ps := P__law_like) fun _ _ _ _ _ _ us hl => match us, hl with | [_, _, _], _ => rfl
  have FBe := fun_mk (st := s__law_bent) lBe cBe kBe
  have bBe := FBe.binds (ps := P__law_bent) fun _ _ _ _ _ _ us hl => match us, hl with | [_, _], _ => rfl
  have FRf := fun_mk (st := s__law_refused) lRf cRf kRf
  have bRf := FRf.binds (ps := P__law_refused) fun _ _ _ _ _ _ us hl => match us, hl with | [_, _, _], _ => rfl
  have FCG := fun_mk (st := s_check_goals) lCG cCG kCG
  have bCG := FCG.binds (ps := P_check_goals) fun _ _ _ _ _ _ us hl => match us, hl with | [_, _], _ => rfl
  have FCD := fun_mk (st := s_check_good) lCD cCD kCD
  have bCD := FCD.binds (ps := P_check_good) fun _ _ _ _ _ _ us hl => match us, hl with | [_, _], _ => rfl
  have FSP := fun_mk (st := s_strange_place) lSP cSP kSP
  have bSP := FSP.binds (ps := P_strange_place) fun _ _ _ _ _ _ us hl => match us, hl with | [_, _], _ => rfl
  have FLaw := fun_mk (st := s_law) lLaw cLaw kLaw
  have FI := fun_mk (st := s_Shape___init__) lI cI kI
  have bI := FI.binds (ps := P_Shape___init__) fun _ _ _ _ _ _ us hl => match us, hl with | [_, _, _, _], _ => rfl
  have FLn := fun_mk (st := s_Shape___len__) lLn cLn kLn
  have bLn := FLn.binds (ps := P_Shape___len__) fun _ _ _ _ _ _ us hl => match us, hl with | [_], _ => rfl
  have FEq := fun_mk (st := s_Shape___eq__) lEq cEq kEq
  have bEq := FEq.binds (ps := P_Shape___eq__) fun _ _ _ _ _ _ us hl => match us, hl with | [_, _], _ => rfl
  have FSr := fun_mk (st := s_Shape___str__) lSr cSr kSr
  have bSr := FSr.binds (ps := P_Shape___str__) fun _ _ _ _ _ _ us hl => match us, hl with | [_], _ => rfl
  have FHas := fun_mk (st := s_Shape_has) lHas cHas kHas
  have bHas := FHas.binds (ps := P_Shape_has) fun _ _ _ _ _ _ us hl => match us, hl with | [_, _], _ => rfl
  have FSt := fun_mk (st := s_Shape_step) lSt cSt kSt
  have bSt := FSt.binds (ps := P_Shape_step) fun _ _ _ _ _ _ us hl => match us, hl with | [_, _, _], _ => rfl
  have FBC := fun_mk (st := s_BadCode___init__) lBC cBC kBC
  have bBC := FBC.binds (ps := P_BadCode___init__) fun _ _ _ _ _ _ us hl => match us, hl with | [_, _], _ => rfl
  have TB : BaseT K mg "CodeError" B := ⟨PySem.W.mg_of X G BC, Bs0, Br, Bv⟩
  have Eeb : ErrT K mg "BadCode" "state" CB fBC := ⟨⟨⟨ebnm, ebq, ebN, ebbs, _, ebsn, ebsub, ebab, ebcol, ebdd, ebm0, ebm1, ebm2, ebm3, ebm5, ebL, by rfl⟩, ebsa, ebex, ebty, ebkc⟩, PySem.W.mg_of X G ebC, aBC, ebtI, ebnf, ⟨ebga, ebgg, ebex, ebhd⟩⟩
  have Eeu : PlainE K mg "Unlike" CU [.type "ValueError", .type "Exception", .type "BaseException", .type "object"] "ValueError.__new__" := ⟨euq, PySem.W.mg_of X G euC, eukc, euex, euty⟩
  have TC : TxtC K mg B CB fBC := { len := PySem.W.mg_none_of X G z_len, any := PySem.W.mg_none_of X G z_any, tuple := PySem.W.mg_none_of X G z_tuple, enumerate := PySem.W.mg_none_of X G z_enumerate, sorted := PySem.W.mg_none_of X G z_sorted, set := PySem.W.mg_none_of X G z_set, base := TB, bc := Eeb }
  have TS : TxtS K mg C fCG fCD B CB fBC := { TC with cl := ⟨cpg, chd, cpo, csa⟩, nL := cnL, nR := cnR, nG := cnE, mgShape := PySem.W.mg_of X G cC, mcheck_goals := PySem.W.mg_of X G aCG, kcheck_goals := kCG, mcheck_good := PySem.W.mg_of X G aCD, kcheck_good := kCD }
  have TSM : TxtSM K mg C fCG fCD B CB fBC fSP fSt fEq fLn := { TS with mstrange_place := PySem.W.mg_of X G aSP, kstrange_place := kSP, mtSt := ⟨aSt, iSt, kSt⟩, isinstance := PySem.W.mg_none_of X G z_isinstance, ca := qa, cn := qn, ct := qt, cm := qm, kc := kit_self C, eqs := aEq, eqf := iEq, lns := aLn, lnf := iLn }
  have TP : TxtP K mg fD fP := { int := PySem.W.mg_none_of X G z_int, len := PySem.W.mg_none_of X G z_len, list := PySem.W.mg_none_of X G z_list, range := PySem.W.mg_none_of X G z_range, sorted := PySem.W.mg_none_of X G z_sorted, m_law_draw := PySem.W.mg_of X G aD, k_law_draw := kD, m_law_pick := PySem.W.mg_of X G aP, k_law_pick := kP }
  have TLi : TxtLi K mg C fCG fCD B CB fBC fSP fSt fEq fLn fD fSr := { TSM with int := PySem.W.mg_none_of X G z_int, list := PySem.W.mg_none_of X G z_list, range := PySem.W.mg_none_of X G z_range, str := PySem.W.mg_none_of X G z_str, m_law_draw := PySem.W.mg_of X G aD, k_law_draw := kD, kt := kit_tupC chd qy qs, ks := kit_strC chd qy qss, ht := qs, hs := qss, srs := aSr, srf := iSr }
  have TBe : TxtBe K mg fD fP fR := { TP with m_law_row_right := PySem.W.mg_of X G aR, k_law_row_right := kR }
  have TRf : TxtRf K mg CB B CU := { gE := PySem.W.mg_of X G BC, gU := PySem.W.mg_of X G euC, isinstance := PySem.W.mg_none_of X G z_isinstance, te := PySem.W.exm_ref ebex ebhd ebty ebss, cB := ⟨ebga, ebgg, ebex, ebhd, ebca, qn, qt, ebmo⟩, kE := kit_sub Bhd Bty nebB ebB, kU := kit_sub euhd euty nebU ebu }
  have TA : TxtAll K mg fD fP fPen fLe fSh fCs fCn fHD fLi fBe fRf C fCG fCD B CB fBC fSP fSt fEq fLn := { TP, TSM with min := PySem.W.mg_none_of X G z_min, bool := PySem.W.mg_none_of X G z_bool, kb := kbb, m_law_pen := PySem.W.mg_of X G aPen, k_law_pen := kPen, m_law_letters := PySem.W.mg_of X G aLe, k_law_letters := kLe, m_law_shape := PySem.W.mg_of X G aSh, k_law_shape := kSh, m_law_columns := PySem.W.mg_of X G aCs, k_law_columns := kCs, m_law_column := PySem.W.mg_of X G aCn, k_law_column := kCn, m_law_has := PySem.W.mg_of X G aHD, k_law_has := kHD, m_law_like := PySem.W.mg_of X G aLi, k_law_like := kLi, m_law_bent := PySem.W.mg_of X G aBe, k_law_bent := kBe, m_law_refused := PySem.W.mg_of X G aRf, k_law_refused := kRf }
  refine ⟨PySem.W.fnOf "law" "law" (defArgs s_law) (defBody s_law) (defScope s_law) .none kVLaw dcLaw pmLaw anLaw cdLaw ctLaw, fun s v => .of_eq rfl, fun base KB GB => ?_⟩
  have GLi : FnOk l.prog w K mg base (L2.CX l.prog w) 7 fLi _ P__law_like (spLikeS K C) := ok_like FLi TLi ⟨cmk, aI, iI, ckc⟩ FI bI FCG bCG FCD bCD FBC bBC FEq bEq FSr bSr FD bD
  have GBe : FnOk l.prog w K mg base CX0 3 fBe _ P__law_bent (spBentS K) := ok_bentS FBe TBe FD bD FP bP FR bR
  have GRf : FnOk l.prog w K mg base CX0 6 fRf _ P__law_refused (spRefS K) := ok_refS FRf TS TRf ⟨cmk, aI, iI, ckc⟩ FI bI FCG bCG FCD bCD FBC bBC
  have GHas : FnOk l.prog w K mg base CX0 2 fHas _ P_Shape_has (spHas K C) := ok_has FHas TSM FSP bSP FSt bSt
  have GI : FnOk l.prog w K mg base (L2.CX l.prog w) 4 fI _ P_Shape___init__ (spInitS K C CB) := ok_initS FI TS FCG bCG FCD bCD FBC bBC
  exact FnOk.calm (ok_law FLaw TA FD bD FP bP FPen bPen FLe bLe FSh bSh FCs bCs FCn bCn FHD bHD GLi bLi GBe bBe GRf bRf FLn bLn ⟨aHas, iHas, kHas⟩ GHas bHas ⟨cmk, aI, iI, ckc⟩ GI bI)
theorem walk {l : PySem.W.OpenLaw} {q : Program} {loose : List Str} {XP : (Str → Option Value) → Heap → Prop} {YP : World → Heap → Prop} {d : DefRec} {K : Params → PySem.W.Frag} (hn : l.most = some 63) (hdf : d.params.defaults = [])
    (hY : ∀ (w : World) (h : Heap), YP w h → (K w.params).In h)
    (F : ∀ (w : World) (mg : Str → Option Value) (fa : Addr) (h : Heap), (K w.params).In h → h.Ns mainGlobals mg → mg d.name = some (.ref fa) →
      ∃ fd : FuncData, (∀ (s : Shared) (u : Value), BindsTo s fd ⟨[u], []⟩ [("_law_script", u)]) ∧ ∀ base : Heap, (K w.params).In base → base.Ns mainGlobals mg → FnOk l.prog w (K w.params) mg base CX0 8 fa fd ["_law_script"] (spLaw (K w.params))) :
    PySem.W.WalkO q loose XP YP l.row.toRowW d [] (fun f vs => PySem.call f vs) :=
  L2.walk_of (n := 63) (k := 8) (x := "_law_script") (CX := fun _ => CX0) (sp := fun w => spLaw (K w.params)) hn (by decide) hdf ⟨rfl, by decide, by decide⟩ hY F (fun _ _ a ns hl _ hS => ⟨a, ns, rfl, hS, hl, fun _ => rfl⟩) fun _ _ _ _ _ z => z
end Vf
open PySem PySem.W PyProof.Rows
set_option maxRecDepth 100000 in
set_option maxHeartbeats 0 in
theorem PySem.Challenge.cw_bestcodes_k40_shapes_by_tables_holds : PySem.Challenge.rw_bestcodes_k40_shapes_by_tables.Holds := by
  w_on; o_law; k_head; (case hw => w_witness2)
  k_fill
  refine Vf.walk (l := PySem.Challenge.rw_bestcodes_k40_shapes_by_tables) rfl rfl (fun w h Y => PySem.W.kIn_of Y) ?F
  case F =>
    intro w mg fa h KX G hmg
    refine' Vf.all_at KX G hmg ?aD ?lD ?cD ?kD ?aP ?lP ?cP ?kP ?aPen ?lPen ?cPen ?kPen ?aLe ?lLe ?cLe ?kLe ?aSh ?lSh ?cSh ?kSh ?aCs ?lCs ?cCs ?kCs ?aCn ?lCn ?cCn ?kCn ?aHD ?lHD ?cHD ?kHD ?aR ?lR ?cR ?kR ?aLi ?lLi ?cLi ?kLi ?aBe ?lBe ?cBe ?kBe ?aRf ?lRf ?cRf ?kRf ?aCG ?lCG ?cCG ?kCG ?aCD ?lCD ?cCD ?kCD ?aSP ?lSP ?cSP ?kSP ?aLaw ?lLaw ?cLaw ?kLaw ?aI ?iI ?lI ?cI ?kI ?aLn ?iLn ?lLn ?cLn ?kLn ?aEq ?iEq ?lEq ?cEq ?kEq ?aSr ?iSr ?lSr ?cSr ?kSr ?aHas ?iHas ?lHas ?cHas ?kHas ?aSt ?iSt ?lSt ?cSt ?kSt ?aBC ?iBC ?lBC ?cBC ?kBC ?z_int ?z_len ?z_list ?z_range ?z_sorted ?z_any ?z_tuple ?z_enumerate ?z_min ?z_set ?z_isinstance ?z_str ?z_bool ?ebC ?ebL ?ebsa ?ebex ?ebty ?ebkc ?ebtI ?ebnf ?ebga ?ebgg ?ebhd ?ebss ?BC ?Bs0 ?Br ?Bv ?euC ?euq ?eukc ?euex ?euty ?euhd ?euss ?cC ?cpg ?chd ?cpo ?csa ?cmk ?ckc ?cnL ?cnR ?cnE ?qa ?qn ?qt ?qm ?qy ?qs ?qss ?ebca ?ebmo ?ebu ?Bhd ?Bty ?ebB ?nebB ?nebU ?kbb
    (case ebC => k_is)
    (case BC => k_is)
    (case euC => first | k_is | kernel_rfl)
    (case cC => first | k_is | kernel_rfl)
    (case aD => k_is)
    (case lD => k_is)
    (case cD => k_is)
    (case kD => k_is)
    (case aP => k_is)
    (case lP => k_is)
    (case cP => k_is)
    (case kP => k_is)
    (case aPen => k_is)
    (case lPen => k_is)
    (case cPen => k_is)
    (case kPen => k_is)
    (case aLe => k_is)
    (case lLe => k_is)
    (case cLe => k_is)
    (case kLe => k_is)
    (case aSh => k_is)
    (case lSh => k_is)
    (case cSh => k_is)
    (case kSh => k_is)
    (case aCs => k_is)
    (case lCs => k_is)
    (case cCs => k_is)
    (case kCs => k_is)
    (case aCn => k_is)
    (case lCn => k_is)
    (case cCn => k_is)
    (case kCn => k_is)
    (case aHD => k_is)
    (case lHD => k_is)
    (case cHD => k_is)
    (case kHD => k_is)
    (case aR => k_is)
    (case lR => k_is)
    (case cR => k_is)
    (case kR => k_is)
    (case aLi => k_is)
    (case lLi => k_is)
    (case cLi => k_is)
    (case kLi => k_is)
    (case aBe => k_is)
    (case lBe => k_is)
    (case cBe => k_is)
    (case kBe => k_is)
    (case aRf => k_is)
    (case lRf => k_is)
    (case cRf => k_is)
    (case kRf => k_is)
    (case aCG => k_is)
    (case lCG => k_is)
    (case cCG => k_is)
    (case kCG => k_is)
    (case aCD => k_is)
    (case lCD => k_is)
    (case cCD => k_is)
    (case kCD => k_is)
    (case aSP => k_is)
    (case lSP => k_is)
    (case cSP => k_is)
    (case kSP => k_is)
    (case aLaw => k_is)
    (case lLaw => k_is)
    (case cLaw => k_is)
    (case kLaw => k_is)
    (case aI => k_is)
    (case iI => k_is)
    (case lI => k_is)
    (case cI => k_is)
    (case kI => k_is)
    (case aLn => k_is)
    (case iLn => k_is)
    (case lLn => k_is)
    (case cLn => k_is)
    (case kLn => k_is)
    (case aEq => k_is)
    (case iEq => k_is)
    (case lEq => k_is)
    (case cEq => k_is)
    (case kEq => k_is)
    (case aSr => k_is)
    (case iSr => k_is)
    (case lSr => k_is)
    (case cSr => k_is)
    (case kSr => k_is)
    (case aHas => k_is)
    (case iHas => k_is)
    (case lHas => k_is)
    (case cHas => k_is)
    (case kHas => k_is)
    (case aSt => k_is)
    (case iSt => k_is)
    (case lSt => k_is)
    (case cSt => k_is)
    (case kSt => k_is)
    (case aBC => k_is)
    (case iBC => k_is)
    (case lBC => k_is)
    (case cBC => k_is)
    (case kBC => k_is)
    (case z_int => k_is)
    (case z_len => k_is)
    (case z_list => k_is)
    (case z_range => k_is)
    (case z_sorted => k_is)
    (case z_any => k_is)
    (case z_tuple => k_is)
    (case z_enumerate => k_is)
    (case z_min => k_is)
    (case z_set => k_is)
    (case z_isinstance => k_is)
    (case z_str => k_is)
    (case z_bool => k_is)
    (case ebL => k_is)
    (case ebsa => k_is)
    (case ebex => k_is)
    (case ebty => k_is)
    (case ebkc => k_is)
    (case ebtI => k_is)
    (case ebnf => k_is)
    (case ebga => k_is)
    (case ebgg => k_is)
    (case ebhd => k_is)
    (case ebss => k_is)
    (case Bs0 => k_is)
    (case Br => k_is)
    (case Bv => k_is)
    (case euq => first | k_is | kernel_rfl)
    (case eukc => first | k_is | kernel_rfl)
    (case euex => first | k_is | kernel_rfl)
    (case euty => first | k_is | kernel_rfl)
    (case euhd => first | k_is | kernel_rfl)
    (case euss => first | k_is | kernel_rfl)
    (case cpg => first | k_is | kernel_rfl)
    (case chd => first | k_is | kernel_rfl)
    (case cpo => first | k_is | kernel_rfl)
    (case csa => first | k_is | kernel_rfl)
    (case cmk => first | k_is | kernel_rfl)
    (case ckc => first | k_is | kernel_rfl)
    (case cnL => first | k_is | kernel_rfl)
    (case cnR => first | k_is | kernel_rfl)
    (case cnE => first | k_is | kernel_rfl)
    (case qa => first | k_is | kernel_rfl)
    (case qn => first | k_is | kernel_rfl)
    (case qt => first | k_is | kernel_rfl)
    (case qm => first | k_is | kernel_rfl)
    (case qy => first | k_is | kernel_rfl)
    (case qs => first | k_is | kernel_rfl)
    (case qss => first | k_is | kernel_rfl)
    (case ebca => first | k_is | kernel_rfl)
    (case ebmo => first | k_is | kernel_rfl)
    (case ebu => first | k_is | kernel_rfl)
    (case Bhd => first | k_is | kernel_rfl)
    (case Bty => first | k_is | kernel_rfl)
    (case ebB => first | k_is | kernel_rfl)
    (case nebB => decide)
    (case nebU => decide)
    (case kbb => first | k_is | kernel_rfl)
#print axioms PySem.Challenge.cw_bestcodes_k40_shapes_by_tables_holds
