import PyProof.Rows.All
import Wide.All
import OpenK.AllK
import Wide.FinOn
import HandS.ForMost
import HandS.Wide
import HandS.ExcInit
import HandS.ExcField
import HandS.WordsExc
import HandS.Style
import KE.GoesEnum
import HandS.Walk
import PyProof.EnumMake
import KE.GoesMore
import HandS.ExcOwn
import HandS.Exc
import HandS.Replace
import HandS.NestedK
import KE.KDictDisplayH
import KE.GoesZip
import HandS.List
import HandS.Set
import HandS.SetFor
import HandS.SetTxtIn
import HandS.Strs
import PyProof.ListStr
import HandS.OwnEq
import HandS.NamedTupGet
import HandS.SlotsOwn
import HandS.IsInst
import HandS.Call
import HandS.Deep
import HandS.ExcIs
import HandS.TryMany
import KE.KNestM
import HandS.EndTab
import PySem.Challenge.RW_bestcodes_k42_shapes_put_together
set_option Elab.async false
set_option linter.all false
set_option maxRecDepth 100000
set_option maxHeartbeats 4000000
/-! the pen -/
namespace Vf
open PySem L2 PyProof.Rows
theorem nCA : ¬ (("cells" : Str) = "at") := by decide +kernel
theorem nCL : ¬ (("cells" : Str) = "left") := by decide +kernel
theorem nAL : ¬ (("at" : Str) = "left") := by decide +kernel
theorem nAC : ¬ (("at" : Str) = "cells") := by decide +kernel
theorem nLC : ¬ (("left" : Str) = "cells") := by decide +kernel
theorem nLA : ¬ (("left" : Str) = "at") := by decide +kernel
def penKV (c : Addr) (a l : Int) : List (Key × V) := [(Sum.inr "cells", .ref c), (Sum.inr "at", .int a), (Sum.inr "left", .int l)]
theorem pen_cells (c : Addr) (a l : Int) : valV (penKV c a l) (Sum.inr "cells") = some (.ref c) := by
  simp [valV, penKV]
theorem pen_at (c : Addr) (a l : Int) : valV (penKV c a l) (Sum.inr "at") = some (.int a) := by
  simp [valV, penKV, nCA]
theorem pen_left (c : Addr) (a l : Int) : valV (penKV c a l) (Sum.inr "left") = some (.int l) := by
  simp [valV, penKV, nCL, nAL]
theorem pen_putAt (c : Addr) (a l b : Int) : putK (penKV c a l) (Sum.inr "at") (.int b) = penKV c b l := by
  simp [putK, penKV, nCA, nLA]
theorem pen_putLeft (c : Addr) (a l b : Int) : putK (penKV c a l) (Sum.inr "left") (.int b) = penKV c a b := by
  simp [putK, penKV, nCL, nAL]
theorem pen_merge (c : Addr) (a l : Int) : mergeK [] (penKV c a l) = penKV c a l := by
  simp [mergeK, penKV, putK, nCA, nCL, nAL]
/-- what a call may leave of the heap: all but the pen at p -/
def Kp (p : Addr) (H H' : Hp) : Prop := ∀ b o, H b = some o → b ≠ p → H' b = some o
theorem Kp.refl (p : Addr) (H : Hp) : Kp p H H := fun _ _ h _ => h
theorem Kp.trans {p : Addr} {H H1 H2 : Hp} (a : Kp p H H1) (b : Kp p H1 H2) : Kp p H H2 := fun c o h n => b c o (a c o h n) n
theorem Kp.of {p : Addr} {H H1 : Hp} (s : Same H H1) : Kp p H H1 := fun b o h _ => s b o h
/-- the pen: a dict of the script's cells, the place, what is left -/
def PenO (H : Hp) (p c : Addr) (a l : Int) (cs : List Int) : Prop := H p = some (.dK (penKV c a l)) ∧ H c = some (.lst (cs.map V.int)) ∧ cs.length ≤ 63 ∧ 0 ≤ a ∧ 0 ≤ l
def Pen (H : Hp) (p c : Addr) (n : Nat) : Prop := ∃ a l cs, PenO H p c a l cs ∧ a ≤ n
theorem PenO.ne {H : Hp} {p c : Addr} {a l : Int} {cs : List Int} (P : PenO H p c a l cs) : c ≠ p := ne_of P.2.1 P.1 (by intro z; cases z)
theorem Pen.mono {H : Hp} {p c : Addr} {n m : Nat} (P : Pen H p c n) (h : n ≤ m) : Pen H p c m := by
  obtain ⟨a, l, cs, q, r⟩ := P
  exact ⟨a, l, cs, q, by omega⟩
theorem Pen.same {H H' : Hp} {p c : Addr} {n : Nat} (P : Pen H p c n) (s : Same H H') : Pen H' p c n := by
  obtain ⟨a, l, cs, ⟨q1, q2, q3⟩, r⟩ := P
  exact ⟨a, l, cs, ⟨s _ _ q1, s _ _ q2, q3⟩, r⟩
theorem Pen.dk {H : Hp} {p c : Addr} {n : Nat} (P : Pen H p c n) : ∃ kvs, H p = some (.dK kvs) := by
  obtain ⟨a, l, cs, ⟨q1, _⟩, _⟩ := P
  exact ⟨_, q1⟩
/-- another object is written -/
theorem Pen.put {H : Hp} {p c r : Addr} {n : Nat} {o : HO} (P : Pen H p c n) (h1 : r ≠ p) (h2 : r ≠ c) : Pen (upd H r o) p c n := by
  obtain ⟨a, l, cs, ⟨q1, q2, q3⟩, z⟩ := P
  exact ⟨a, l, cs, ⟨by rw [upd_ne h1.symm]; exact q1, by rw [upd_ne h2.symm]; exact q2, q3⟩, z⟩
theorem Pen.new {H : Hp} {p c r : Addr} {n : Nat} (P : Pen H p c n) (h : H r = none) : r ≠ p ∧ r ≠ c := by
  obtain ⟨a, l, cs, ⟨q1, q2, q3⟩, z⟩ := P
  exact ⟨(ne_of_none q1 h).symm, (ne_of_none q2 h).symm⟩
theorem Kp.free {p c l : Addr} {n : Nat} {H H' : Hp} (k : Kp p H H') (P : Pen H' p c n) (h : H' l = none) : H l = none := by
  cases e : H l with
  | none => rfl
  | some o =>
    have := k l o e (P.new h).1
    rw [h] at this; cases this
theorem Kp.put {p r : Addr} {H H' : Hp} {o : HO} (k : Kp p H H') (h : H r = none) : Kp p H (upd H' r o) := fun b u e n => by
  rw [upd_ne (ne_of_none e h)]
  exact k b u e n
/-- a new object beside -/
theorem same_new {H : Hp} {a : Addr} {o : HO} (h : H a = none) : Same H (upd H a o) := fun b u e => by
  rw [upd_ne (ne_of_none e h)]
  exact e
theorem Same.upd {H H' : Hp} {a : Addr} {o : HO} (s : Same H H') (h : H a = none) : Same H (upd H' a o) := fun b u e => by
  rw [upd_ne (ne_of_none e h)]
  exact s b u e
theorem kp_upd {H : Hp} {p : Addr} {o : HO} : Kp p H (L2.upd H p o) := fun b u e n => by
  rw [upd_ne n]
  exact e
theorem dget_left {H : Hp} {p c : Addr} {a l : Int} (h : H p = some (.dK (penKV c a l))) : DGet H p (.str "left") (some (.int l)) := by
  have := DGet.k (k := Sum.inr "left") h
  rw [pen_left] at this
  exact this
theorem dget_at {H : Hp} {p c : Addr} {a l : Int} (h : H p = some (.dK (penKV c a l))) : DGet H p (.str "at") (some (.int a)) := by
  have := DGet.k (k := Sum.inr "at") h
  rw [pen_at] at this
  exact this
theorem dget_cells {H : Hp} {p c : Addr} {a l : Int} (h : H p = some (.dK (penKV c a l))) : DGet H p (.str "cells") (some (.ref c)) := by
  have := DGet.k (k := Sum.inr "cells") h
  rw [pen_cells] at this
  exact this
theorem dput_left {H : Hp} {p c : Addr} {a l b : Int} (h : H p = some (.dK (penKV c a l))) : DPut H p (.str "left") (.int b) (L2.upd H p (.dK (penKV c a b))) := by
  have := DPut.k (k := Sum.inr "left") (v := .int b) h (by show 3 < sizeLine; decide)
  rw [pen_putLeft] at this
  exact this
theorem dput_at {H : Hp} {p c : Addr} {a l b : Int} (h : H p = some (.dK (penKV c a l))) : DPut H p (.str "at") (.int b) (L2.upd H p (.dK (penKV c b l))) := by
  have := DPut.k (k := Sum.inr "at") (v := .int b) h (by show 3 < sizeLine; decide)
  rw [pen_putAt] at this
  exact this
theorem dp_ints (K : PySem.W.Frag) {H : Hp} {c : Addr} {cs : List Int} (h : H c = some (.lst (cs.map V.int))) : Dp K H (.ref c) (.list (cs.map PyData.int)) := by
  refine .lst (SqL.of h) ?_
  clear h
  induction cs with
  | nil => exact .nil
  | cons x r ih => exact .cons (.int x) ih
theorem eqv_ints_nil (cs : List Int) : PyData.eqv (.list (cs.map PyData.int)) (.list []) = cs.isEmpty := by
  cases cs with
  | nil => simp [PyData.eqv, PyData.eqvAll]
  | cons x r => simp [PyData.eqv, PyData.eqvAll]
theorem shaped_nil : SeqAt.shaped (.list []) = true := PySem.W.shaped_ints []
theorem fmod_bounds {x m : Int} (h : 0 < m) : 0 ≤ x.fmod m ∧ x.fmod m < m := by
  rw [Int.fmod_eq_emod_of_nonneg x (Int.le_of_lt h)]
  exact ⟨Int.emod_nonneg _ (by omega), Int.emod_lt_of_pos _ h⟩
theorem log_lt {m : Int} (h0 : 0 < m) (h : m < 2 ^ 200) : m.natAbs.log2 < 9000 := by
  have : m.natAbs < 2 ^ 200 := by omega
  exact Nat.lt_of_lt_of_le (PySem.Flt.log2_lt_of (by decide) this) (by decide)
end Vf
set_option Elab.async false
set_option linter.all false
set_option maxRecDepth 100000
set_option maxHeartbeats 4000000
/-! texts of one sign, letters -/
namespace Vf
open PySem L2 PyProof.Rows
/-- a text of one sign -/
def sg (c : Nat) : Str := ⟨#[c]⟩
theorem sg_tl (c : Nat) : TL.tl (sg c) = [c] := rfl
theorem sg_inj {c d : Nat} (h : sg c = sg d) : c = d := by
  have : TL.tl (sg c) = TL.tl (sg d) := by rw [h]
  rw [sg_tl, sg_tl] at this
  exact List.cons.inj this |>.1
theorem joinL_sg : ∀ cs : List Nat, TL.joinL [] ((cs.map sg).map TL.tl) = cs
  | [] => rfl
  | [c] => rfl
  | c :: d :: r => by
    have ih := joinL_sg (d :: r)
    show [c] ++ ([] ++ TL.joinL [] (((d :: r).map sg).map TL.tl)) = c :: d :: r
    rw [ih]; rfl
theorem join_sg (cs : List Nat) : TL.tl (Txt.join Str.empty (cs.map sg)) = cs := by
  rw [TL.join_eq, TL.tl_join]
  exact joinL_sg cs
theorem sum_sg (cs : List Nat) : ((cs.map sg).map (·.length)).sum = cs.length := by
  induction cs with
  | nil => rfl
  | cons c r ih =>
    simp only [List.map_cons, List.sum_cons, ih, List.length_cons]
    show 1 + r.length = r.length + 1
    omega
/-- what is a permutation of texts of one sign, is such -/
theorem perm_sg : ∀ {ys : List Str} {cs : List Nat}, ys.Perm (cs.map sg) → ∃ ds : List Nat, ys = ds.map sg ∧ ds.Perm cs := by
  intro ys cs h
  have hall : ∀ y ∈ ys, ∃ c, y = sg c := fun y hy => by
    obtain ⟨c, _, e⟩ := List.mem_map.mp (h.mem_iff.mp hy)
    exact ⟨c, e.symm⟩
  have : ∃ ds : List Nat, ys = ds.map sg := by
    clear h
    induction ys with
    | nil => exact ⟨[], rfl⟩
    | cons y r ih =>
      obtain ⟨c, e⟩ := hall y (List.mem_cons_self ..)
      obtain ⟨ds, e2⟩ := ih fun z hz => hall z (List.mem_cons_of_mem _ hz)
      exact ⟨c :: ds, by rw [e, e2]; rfl⟩
  obtain ⟨ds, e⟩ := this
  refine ⟨ds, e, ?_⟩
  rw [e] at h
  have g : ∀ l : List Nat, (l.map sg).map (fun s => s.cps.toList.headD 0) = l := fun l => by
    rw [List.map_map]
    exact List.map_id'' (fun c => rfl) l
  have := h.map (fun s : Str => s.cps.toList.headD 0)
  rw [g, g] at this
  exact this
theorem rising_sg : ∀ (cs : List Nat) (p : Nat), PyProof.Rows.risingS (sg p) (cs.map sg) = true → (p :: cs).Pairwise (· ≤ ·)
  | [], p, _ => List.pairwise_singleton _ _
  | c :: r, p, h => by
    have h' : (!PySem.Spec.ltCps (sg c).cps.toList (sg p).cps.toList && PyProof.Rows.risingS (sg c) (r.map sg)) = true := h
    rw [Bool.and_eq_true] at h'
    have ih := rising_sg r c h'.2
    have hpc : p ≤ c := by
      have h1 := h'.1
      have e : PySem.Spec.ltCps (sg c).cps.toList (sg p).cps.toList = PySem.Spec.ltCps [c] [p] := rfl
      rw [e] at h1
      by_cases q : c < p
      · exfalso
        simp [PySem.Spec.ltCps, q] at h1
      · omega
    refine List.pairwise_cons.mpr ⟨fun d hd => ?_, ih⟩
    rcases List.mem_cons.mp hd with e | hd
    · omega
    · have := (List.pairwise_cons.mp ih).1 d hd
      omega
theorem sorted_sg {cs : List Nat} (h : PyProof.Rows.sortedS (cs.map sg) = true) : cs.Pairwise (· ≤ ·) := by
  cases cs with
  | nil => exact List.Pairwise.nil
  | cons c r => exact rising_sg r c h
/-- letters: ascending, from a to z -/
def Ltr (z : Str) (m : Nat) : Prop := z.length = m ∧ (TL.tl z).Pairwise (· < ·) ∧ ∀ c ∈ TL.tl z, 97 ≤ c ∧ c ≤ 122
def alpha : List Nat := TL.tl (Str.ofString "abcdefghijklmnopqrstuvwxyz")
theorem alpha_nodup : alpha.Nodup := by decide +kernel
theorem alpha_all : ∀ c ∈ alpha, 97 ≤ c ∧ c ≤ 122 := by decide +kernel
theorem alpha_len : alpha.length = 26 := by decide +kernel
theorem ltr_of {fs ds L : List Nat} (hp : (fs ++ L).Perm alpha) (hd : ds.Perm fs) (hs : ds.Pairwise (· ≤ ·)) : ds.Pairwise (· < ·) ∧ ∀ c ∈ ds, 97 ≤ c ∧ c ≤ 122 := by
  have nd : (fs ++ L).Nodup := hp.nodup_iff.mpr alpha_nodup
  have ndf : ds.Nodup := hd.nodup_iff.mpr (List.nodup_append.mp nd).1
  refine ⟨?_, fun c hc => alpha_all c (hp.mem_iff.mp (List.mem_append_left _ (hd.mem_iff.mp hc)))⟩
  have : ds.Pairwise (fun a b => a ≤ b ∧ a ≠ b) := List.Pairwise.and hs ndf
  exact this.imp fun ⟨h1, h2⟩ => by omega
theorem cutS_tl (z : Str) (lo hi : Option Int) : TL.tl (cutS z lo hi) = ((TL.tl z).drop (HT.sIx z.length 0 lo)).take (HT.sIx z.length z.length hi - HT.sIx z.length 0 lo) := by
  unfold cutS TL.tl
  simp
theorem cut_to {z : Str} {j : Nat} (h : j ≤ z.length) : TL.tl (cutS z none (some (j : Int))) = (TL.tl z).take j := by
  rw [cutS_tl, HT.sIx_none, HT.sIx_nat, List.drop_zero, Nat.min_eq_left h, Nat.sub_zero]
theorem cut_from {z : Str} {j : Nat} (h : j ≤ z.length) : TL.tl (cutS z (some (j : Int)) none) = (TL.tl z).drop j := by
  rw [cutS_tl, HT.sIx_none, HT.sIx_nat, Nat.min_eq_left h]
  exact List.take_of_length_le (by rw [List.length_drop, TL.len_tl]; omega)
theorem kp_seq {K : PySem.W.Frag} {p a : Addr} {H H' : Hp} {kvs : List (Key × V)} {xs : List V} (k : Kp p H H') (hp : H p = some (.dK kvs)) (h : SqL K H a xs) : SqL K H' a xs := by
  rcases h with (h | ⟨o, h⟩) | h
  · exact .inl (.inl (k _ _ h (ne_of h hp (by intro z; cases z))))
  · exact .inl (.inr ⟨o, k _ _ h (ne_of h hp (by intro z; cases z))⟩)
  · exact .inr h
theorem kp_seqT {K : PySem.W.Frag} {p a : Addr} {H H' : Hp} {kvs : List (Key × V)} {xs : List V} (k : Kp p H H') (hp : H p = some (.dK kvs)) (h : SqT K H a xs) : SqT K H' a xs := by
  rcases h with (h | ⟨o, h⟩) | h
  · exact .inl (.inl (k _ _ h (ne_of h hp (by intro z; cases z))))
  · exact .inl (.inr ⟨o, k _ _ h (ne_of h hp (by intro z; cases z))⟩)
  · exact .inr h
theorem at_of' {α : Type} {xs : List α} {z : Int} {j : Nat} {v : α} (e : z = (j : Int)) (h : xs[j]? = some v) : atI xs z = some v := by
  rw [e]
  exact atI_nat h
end Vf
set_option Elab.async false
set_option linter.all false
set_option maxRecDepth 100000
set_option maxHeartbeats 4000000
namespace Vf
open PySem L2 PyProof.Rows
def top (i : Nat) : Stmt := PySem.Challenge.pw_bestcodes_k42_shapes_put_together.main.body.getD i (.Pass ⟨0, 0, 0, 0⟩)
structure TxtA (K : PySem.W.Frag) (mg : Str → Option Value) : Prop where
  int : mg "int" = none
  len : mg "len" = none
  list : mg "list" = none
  range : mg "range" = none
  sorted : mg "sorted" = none
def spPen (K : PySem.W.Frag) : Sp := fun vs H Q _ => ∃ (s : Addr) (ns : List Int), vs = [.ref s] ∧ SqL K H s (ns.map V.int) ∧ ns.length ≤ 63 ∧
  ∀ (p c : Addr) (H' : Hp), H p = none → H c = none → Pen H' p c 0 → Same H H' → Q (.ref p) H'
def spDraw : Sp := fun vs H Q _ => ∃ (p c : Addr) (m : Int) (n : Nat), vs = [.ref p, .int m] ∧ Pen H p c n ∧ n ≤ 2 ^ 30 ∧ 0 < m ∧ m < 2 ^ 200 ∧
  ∀ (d : Int) (H' : Hp), 0 ≤ d → d < m → Pen H' p c (n + 1) → Kp p H H' → Q (.int d) H'
/-- a pick out of a list; out of a text -/
def spPickL (K : PySem.W.Frag) : Sp := fun vs H Q _ => ∃ (p c a : Addr) (xs : List V) (n : Nat), vs = [.ref p, .ref a] ∧ Pen H p c n ∧ n ≤ 2 ^ 30 ∧ SqL K H a xs ∧ 0 < xs.length ∧ xs.length ≤ 1000 ∧
  ∀ (j : Nat) (v : V) (H' : Hp), xs[j]? = some v → Pen H' p c (n + 1) → Kp p H H' → Q v H'
def spPickS : Sp := fun vs H Q _ => ∃ (p c : Addr) (z : Str) (n : Nat), vs = [.ref p, .str z] ∧ Pen H p c n ∧ n ≤ 2 ^ 30 ∧ 0 < z.length ∧ z.length ≤ 1000 ∧
  ∀ (j x : Nat) (H' : Hp), (TL.tl z)[j]? = some x → Pen H' p c (n + 1) → Kp p H H' → Q (.str (sg x)) H'
def spLetters : Sp := fun vs H Q _ => ∃ (p c : Addr) (m : Nat) (n : Nat), vs = [.ref p, .int m] ∧ Pen H p c n ∧ n ≤ 2 ^ 29 ∧ m ≤ 26 ∧
  ∀ (z : Str) (H' : Hp), Ltr z m → Pen H' p c (n + m) → Kp p H H' → Q (.str z) H'
def spBits : Sp := fun vs H Q _ => ∃ (p c : Addr) (n : Nat), vs = [.ref p] ∧ Pen H p c n ∧ n ≤ 2 ^ 29 ∧
  ∀ (d : Int) (H' : Hp), 0 ≤ d → d < 100 → Pen H' p c (n + 3) → Kp p H H' → Q (.int d) H'
section
variable {P : Program} {w : World} {K : PySem.W.Frag} {mg : Str → Option Value} {base : Heap}
abbrev s__law_pen : Stmt := top 24
abbrev N__law_pen : List Str := ["_law_script"]
abbrev P__law_pen : List Str := ["_law_script"]
theorem sc__law_pen : FnScope N__law_pen P__law_pen (defScope s__law_pen) := ⟨rfl, rfl, rfl, by decide +kernel, rfl, by decide +kernel, by decide +kernel⟩

theorem ok_pen {f : Addr} {fd : FuncData} (F : Fun K "_law_pen" "_law_pen" s__law_pen f fd) (T : TxtA K mg) : FnOk P w K mg base CX0 1 f fd P__law_pen (spPen K) := by
  refine F.ok sc__law_pen (fun vs H Q E h => ?_) (fun cdv A outer s H vs Q E hr h => ?_)
  · obtain ⟨s, ns, rfl, _⟩ := h
    rfl
  · obtain ⟨s, ns, rfl, hS, hl, k⟩ := h
    refine ⟨_, (pss_one (ps_ret (pe_disp (pps_cons pe_str (pe_callTy call_list_of (by rfl) T.list boot_list (pa_cons (pe_slice sl_list (pv 0) po_none (po_some pe_int)) pa_nil)) (pps_cons pe_str pe_int (pps_cons pe_str pe_int pps_nil))) (by rfl) (by rfl) (fun z => by cases z) (by decide)))), ?_⟩
    intro p hp
    have s1 : Same H (L2.upd H p (.dK [])) := same_new hp
    refine ⟨_, rfl, _, rfl, s, _, rfl, s1.seq hS, fun q hq => ?_⟩
    have nqp : q ≠ p := (ne_of_none (upd_same (H := H) (a := p)) hq).symm
    refine ⟨q, _, rfl, Or.inl (SqL.of upd_same), fun c hc => ?_⟩
    have ncp : c ≠ p := fun e => by rw [e, upd_ne nqp.symm, upd_same] at hc; cases hc
    have ncq : c ≠ q := fun e => by rw [e, upd_same] at hc; cases hc
    refine ⟨(by rw [upd_ne ncp.symm, upd_ne nqp.symm, upd_same]), penKV c 0 0, rfl, (by show 3 ≤ 15; decide), ?_⟩
    rw [pen_merge]
    have hcn : H c = none := s1.free ((same_new hq).free hc)
    have hqn : H q = none := s1.free hq
    have ec : cutV (ns.map V.int) none (some 63) = (ns.take 63).map V.int := by
      rw [List.take_of_length_le hl]
      unfold cutV
      simp [HT.sIx]
      exact List.take_of_length_le (by rw [List.length_map]; omega)
    refine k p c _ hp hcn ⟨0, 0, ns.take 63, ⟨upd_same, ?_, ?_, by decide, by decide⟩, by decide⟩ ?_
    · rw [upd_ne ncp, upd_same, ec]
    · rw [List.length_take]; omega
    · intro b o e
      rw [upd_ne (ne_of_none e hp), upd_ne (ne_of_none e hcn), upd_ne (ne_of_none e hqn), upd_ne (ne_of_none e hp)]
      exact e
abbrev s__law_draw : Stmt := top 25
abbrev N__law_draw : List Str := ["_law_pen_here", "_law_many", "_law_digit", "_law_at", "_law_cell", "_law_mixed"]
abbrev P__law_draw : List Str := ["_law_pen_here", "_law_many"]
theorem sc__law_draw : FnScope N__law_draw P__law_draw (defScope s__law_draw) := ⟨rfl, rfl, rfl, by decide +kernel, rfl, by decide +kernel, by decide +kernel⟩

theorem ok_draw {f : Addr} {fd : FuncData} (F : Fun K "_law_draw" "_law_draw" s__law_draw f fd) (T : TxtA K mg) : FnOk P w K mg base CX0 1 f fd P__law_draw spDraw := by
  refine F.ok sc__law_draw (fun vs H Q E h => ?_) (fun cdv A outer s H vs Q E hr h => ?_)
  · obtain ⟨p, c, m, n, rfl, _⟩ := h
    rfl
  · obtain ⟨p, c, m, n, rfl, ⟨a, l, cs, ⟨h1, h2, h3, h4, h5⟩, h6⟩, hn, m0, m1, k⟩ := h
    have hu := hu_of hr
    have ncp : c ≠ p := ne_of h2 h1 (by intro z; cases z)
    refine ⟨_, (pss_cons (ps_if (pt_cmpR op_ge (pe_dget hu (pv 0) pe_str (fun _ _ => rfl)) (pv 1) (nomark _)) (pss_cons (ps_set (i := 2) sc__law_draw.nd rfl (Or.inl rfl) (pe_op op_modN (pe_callTy call_int1 (by rfl) T.int boot_int (pa_cons (pe_dget hu (pv 0) pe_str (fun _ _ => rfl)) pa_nil)) (pv 1)))
      (pss_cons (ps_dput hu (pv 0) pe_str (pe_op op_fdivW (pe_dget hu (pv 0) pe_str (fun _ _ => rfl)) (pv 1)) rfl)
      (pss_one (ps_ret (pv 2))))) pss_nil)
      (pss_cons (ps_set (i := 3) sc__law_draw.nd rfl (Or.inl rfl) (pe_dget hu (pv 0) pe_str (fun _ _ => rfl)))
      (pss_cons (ps_dput hu (pv 0) pe_str (pe_op op_add (pv 3) pe_int) rfl)
      (pss_cons (ps_set (i := 4) sc__law_draw.nd rfl (Or.inl rfl) (pe_op op_add (pe_op op_mul pe_int (pv 3)) pe_int))
      (pss_cons (ps_if (pt_cmpR (op_neD hr.units) (pe_dget hu (pv 0) pe_str (fun _ _ => rfl)) (pe_lst pa_nil) (nomark _)) (pss_one (ps_set (i := 4) sc__law_draw.nd rfl (Or.inl rfl) (pe_ix ix_list (pe_dget hu (pv 0) pe_str (fun _ _ => rfl)) (pe_op op_modN (pe_callTy call_int1 (by rfl) T.int boot_int (pa_cons (pv 3) pa_nil)) (pe_callB call_len (by rfl) T.len PySem.boot_len (pa_cons (pe_dget hu (pv 0) pe_str (fun _ _ => rfl)) pa_nil))) (fun _ _ => rfl)))) pss_nil)
      (pss_cons (ps_if (PW.pt (pw_and (pt_cmpR op_lt (pv 3) (pe_callB call_len (by rfl) T.len PySem.boot_len (pa_cons (pe_dget hu (pv 0) pe_str (fun _ _ => rfl)) pa_nil)) (nomark _)) (pw_and1 (pt_cmpR op_ge (pv 4) (pe_op op_pow pe_int pe_int) (nomark _))))) (pss_cons (ps_dput hu (pv 0) pe_str (pe_op op_fdivW (pe_op op_sub (pv 4) (pe_op op_pow pe_int pe_int)) (pv 1)) rfl)
      (pss_one (ps_ret (pe_op op_modN (pe_callTy call_int1 (by rfl) T.int boot_int (pa_cons (pe_op op_sub (pv 4) (pe_op op_pow pe_int pe_int)) pa_nil)) (pv 1))))) pss_nil)
      (pss_cons (ps_set (i := 5) sc__law_draw.nd rfl (Or.inl rfl) (pe_op op_add (pe_op op_add (pe_op op_add (pe_op op_mul (pe_op op_modN (pe_callTy call_int1 (by rfl) T.int boot_int (pa_cons (pv 4) pa_nil)) pe_int) pe_int) (pe_op op_mul (pe_op op_mul pe_int (pv 3)) (pv 3))) (pe_op op_mul pe_int (pv 3))) pe_int))
      (pss_cons (ps_set (i := 5) sc__law_draw.nd rfl (Or.inl rfl) (pe_op op_modN (pe_callTy call_int1 (by rfl) T.int boot_int (pa_cons (pv 5) pa_nil)) pe_int))
      (pss_cons (ps_set (i := 5) sc__law_draw.nd rfl (Or.inl rfl) (pe_op op_modN (pe_callTy call_int1 (by rfl) T.int boot_int (pa_cons (pe_op op_mul (pv 5) (pe_op op_add (pv 5) pe_int)) pa_nil)) pe_int))
      (pss_one (ps_ret (pe_op op_modN (pe_callTy call_int1 (by rfl) T.int boot_int (pa_cons (pe_op op_fdivN (pe_op op_modN (pe_callTy call_int1 (by rfl) T.int boot_int (pa_cons (pe_op op_mul (pv 5) (pv 5)) pa_nil)) pe_int) pe_int) pa_nil)) (pv 1))))))))))))), ?_⟩
    -- if pen['left'] >= many
    refine ⟨_, rfl, p, _, rfl, dget_left h1, _, rfl, _, _, rfl, rfl, _, rfl, ite2 (fun c1 => ?_) (fun c1 => ?_)⟩
    · have c1 : m ≤ l := by simpa using c1
      refine ⟨_, rfl, p, _, rfl, dget_left h1, Or.inl ⟨_, rfl, _, rfl, _, _, rfl, rfl, (by omega), ?_⟩⟩
      refine ⟨_, rfl, p, _, rfl, dget_left h1, _, rfl, _, _, rfl, rfl, ⟨m0, log_lt m0 m1⟩, _, rfl, p, _, rfl, dput_left h1, ?_⟩
      refine ⟨_, rfl, k _ _ (fmod_bounds m0).1 (fmod_bounds m0).2 ⟨a, l / m, cs, ⟨upd_same, by rw [upd_ne ncp]; exact h2, h3, h4, Int.ediv_nonneg h5 (by omega)⟩, by omega⟩ kp_upd⟩
    · -- at; pen['at'] = at + 1; cell = 41 * at + 23
      refine ⟨_, rfl, p, _, rfl, dget_at h1, ?_⟩
      refine ⟨_, rfl, _, _, rfl, rfl, _, rfl, p, _, rfl, dput_at h1, ?_⟩
      have g1 : (L2.upd H p (.dK (penKV c (a + 1) l))) p = some (.dK (penKV c (a + 1) l)) := upd_same
      have g2 : (L2.upd H p (.dK (penKV c (a + 1) l))) c = some (.lst (cs.map V.int)) := by rw [upd_ne ncp]; exact h2
      have gk : Kp p H (L2.upd H p (.dK (penKV c (a + 1) l))) := kp_upd
      revert g1 g2 gk
      generalize L2.upd H p (.dK (penKV c (a + 1) l)) = H1
      intro g1 g2 gk
      refine ⟨_, rfl, _, _, rfl, rfl, Or.inl ⟨by decide, by decide⟩, _, _, rfl, rfl, ?_⟩
      -- the cell
      refine ⟨_, rfl, p, _, rfl, dget_cells g1, (by show 0 ≤ sizeLine; decide), fun q hq => ?_⟩
      have nqp : q ≠ p := (ne_of_none g1 hq).symm
      have nqc : q ≠ c := (ne_of_none g2 hq).symm
      have k1 : (L2.upd H1 q (.lst [])) p = some (.dK (penKV c (a + 1) l)) := by rw [upd_ne nqp.symm]; exact g1
      have k2 : (L2.upd H1 q (.lst [])) c = some (.lst (cs.map V.int)) := by rw [upd_ne nqc.symm]; exact g2
      have kk : Kp p H (L2.upd H1 q (.lst [])) := gk.trans (Kp.of (same_new hq))
      refine ⟨_, _, dp_ints K k2, .lst (SqL.of upd_same) .nil, PySem.W.shaped_ints cs, shaped_nil, _, rfl, ?_⟩
      rw [eqv_ints_nil]
      revert k1 k2 kk
      generalize L2.upd H1 q (.lst []) = H2
      intro k1 k2 kk
      refine ite2 (fun c2 => ?_) (fun c2 => ?_)
      · have hlen : 0 < cs.length := by cases cs with | nil => simp at c2 | cons x r => simp
        have hm := fmod_bounds (x := a) (m := ((cs.map V.int).length : Int)) (by rw [List.length_map]; omega)
        have hj : (a.fmod ((cs.map V.int).length : Int)).toNat < cs.length := by rw [List.length_map] at *; omega
        refine ⟨_, rfl, p, _, rfl, dget_cells k1, _, rfl, Or.inl ⟨_, rfl, _, rfl, p, _, rfl, dget_cells k1, _, _, rfl, Or.inl ⟨_, SqL.of k2, rfl⟩, _, _, rfl, rfl, (by rw [List.length_map]; omega), ?_⟩⟩
        refine ⟨c, _, _, V.int (cs[(a.fmod ((cs.map V.int).length : Int)).toNat]), rfl, rfl, SqL.of k2, ?_, ?_⟩
        · exact at_of (Int.toNat_of_nonneg hm.1).symm (by rw [List.getElem?_map, List.getElem?_eq_getElem hj]; rfl)
        · generalize cs[(a.fmod ((cs.map V.int).length : Int)).toNat] = x
          refine ⟨_, rfl, _, rfl, p, _, rfl, dget_cells k1, V.ref c, _, rfl, Or.inl ⟨_, SqL.of k2, rfl⟩, _, _, rfl, rfl, _, rfl, ite2 (fun c3 => ?_) (fun c3 => ?_)⟩
          · refine ⟨_, rfl, _, _, rfl, rfl, ⟨by decide, by decide, by decide⟩, _, _, rfl, rfl, _, rfl, ite2 (fun c4 => ?_) (fun c4 => ?_)⟩
            · have c4 : (10 : Int) ^ 18 ≤ x := by simpa using c4
              refine ⟨_, rfl, _, _, rfl, rfl, ⟨by decide, by decide, by decide⟩, _, _, rfl, rfl, _, rfl, _, _, rfl, rfl, ⟨m0, log_lt m0 m1⟩, _, rfl, p, _, rfl, dput_left k1, ?_⟩
              refine ⟨_, rfl, _, _, rfl, rfl, ⟨by decide, by decide, by decide⟩, _, _, rfl, rfl, Or.inl ⟨_, rfl, _, rfl, _, _, rfl, rfl, (by omega), ?_⟩⟩
              refine k _ _ (fmod_bounds m0).1 (fmod_bounds m0).2 ⟨a + 1, _, cs, ⟨upd_same, by rw [upd_ne ncp]; exact k2, h3, by omega, Int.ediv_nonneg ?_ (by omega)⟩, by omega⟩ (kk.trans kp_upd)
              show 0 ≤ x - 10 ^ 18
              omega
            · refine ⟨_, rfl, Or.inl ⟨_, rfl, _, _, rfl, rfl, (by show (2147483587 : Int) ≠ 0; decide), _, _, rfl, rfl, Or.inr ⟨by decide, by decide⟩, ?_⟩⟩
              refine ⟨_, rfl, _, _, rfl, rfl, Or.inl ⟨by decide, by decide⟩, _, rfl, _, _, rfl, rfl, Or.inr ⟨by omega, by omega⟩, ?_⟩
              refine ⟨_, _, rfl, rfl, _, rfl, _, _, rfl, rfl, Or.inl ⟨by decide, by decide⟩, _, _, rfl, rfl, _, _, rfl, rfl, ?_⟩
              refine ⟨_, rfl, Or.inl ⟨_, rfl, _, _, rfl, rfl, (by show (2147483629 : Int) ≠ 0; decide), ?_⟩⟩
              have hz := fmod_bounds (x := x.fmod 2147483587 * 48271 + 40014 * a * a + 59 * a + 17) (m := 2147483629) (by decide)
              refine ⟨_, rfl, _, rfl, _, _, rfl, rfl, _, _, rfl, rfl, Or.inl ⟨by omega, by omega⟩, Or.inl ⟨_, rfl, _, _, rfl, rfl, (by show (2147483549 : Int) ≠ 0; decide), ?_⟩⟩
              refine ⟨_, rfl, _, rfl, _, _, rfl, rfl, Or.inl ?_, Or.inl ⟨_, rfl, _, _, rfl, rfl, (by show (2147483579 : Int) ≠ 0; decide), _, _, rfl, rfl, ⟨by decide, by decide⟩, Or.inl ⟨_, rfl, _, rfl, _, _, rfl, rfl, (by omega), ?_⟩⟩⟩
              · have hy := fmod_bounds (x := (x.fmod 2147483587 * 48271 + 40014 * a * a + 59 * a + 17).fmod 2147483629 * ((x.fmod 2147483587 * 48271 + 40014 * a * a + 59 * a + 17).fmod 2147483629 + 69621)) (m := 2147483549) (by decide)
                exact ⟨by omega, by omega⟩
              exact k _ _ (fmod_bounds m0).1 (fmod_bounds m0).2 ⟨a + 1, l, cs, ⟨k1, k2, h3, by omega, h5⟩, by omega⟩ kk
          · refine ⟨_, rfl, Or.inl ⟨_, rfl, _, _, rfl, rfl, (by show (2147483587 : Int) ≠ 0; decide), _, _, rfl, rfl, Or.inr ⟨by decide, by decide⟩, ?_⟩⟩
            refine ⟨_, rfl, _, _, rfl, rfl, Or.inl ⟨by decide, by decide⟩, _, rfl, _, _, rfl, rfl, Or.inr ⟨by omega, by omega⟩, ?_⟩
            refine ⟨_, _, rfl, rfl, _, rfl, _, _, rfl, rfl, Or.inl ⟨by decide, by decide⟩, _, _, rfl, rfl, _, _, rfl, rfl, ?_⟩
            refine ⟨_, rfl, Or.inl ⟨_, rfl, _, _, rfl, rfl, (by show (2147483629 : Int) ≠ 0; decide), ?_⟩⟩
            have hz := fmod_bounds (x := x.fmod 2147483587 * 48271 + 40014 * a * a + 59 * a + 17) (m := 2147483629) (by decide)
            refine ⟨_, rfl, _, rfl, _, _, rfl, rfl, _, _, rfl, rfl, Or.inl ⟨by omega, by omega⟩, Or.inl ⟨_, rfl, _, _, rfl, rfl, (by show (2147483549 : Int) ≠ 0; decide), ?_⟩⟩
            refine ⟨_, rfl, _, rfl, _, _, rfl, rfl, Or.inl ?_, Or.inl ⟨_, rfl, _, _, rfl, rfl, (by show (2147483579 : Int) ≠ 0; decide), _, _, rfl, rfl, ⟨by decide, by decide⟩, Or.inl ⟨_, rfl, _, rfl, _, _, rfl, rfl, (by omega), ?_⟩⟩⟩
            · have hy := fmod_bounds (x := (x.fmod 2147483587 * 48271 + 40014 * a * a + 59 * a + 17).fmod 2147483629 * ((x.fmod 2147483587 * 48271 + 40014 * a * a + 59 * a + 17).fmod 2147483629 + 69621)) (m := 2147483549) (by decide)
              exact ⟨by omega, by omega⟩
            exact k _ _ (fmod_bounds m0).1 (fmod_bounds m0).2 ⟨a + 1, l, cs, ⟨k1, k2, h3, by omega, h5⟩, by omega⟩ kk
      · skip
        refine ⟨_, rfl, _, rfl, p, _, rfl, dget_cells k1, V.ref c, _, rfl, Or.inl ⟨_, SqL.of k2, rfl⟩, _, _, rfl, rfl, _, rfl, ite2 (fun c3 => ?_) (fun c3 => ?_)⟩
        · refine ⟨_, rfl, _, _, rfl, rfl, ⟨by decide, by decide, by decide⟩, _, _, rfl, rfl, _, rfl, ite2 (fun c4 => ?_) (fun c4 => ?_)⟩
          · have c4 : (10 : Int) ^ 18 ≤ 41 * a + 23 := by simpa using c4
            refine ⟨_, rfl, _, _, rfl, rfl, ⟨by decide, by decide, by decide⟩, _, _, rfl, rfl, _, rfl, _, _, rfl, rfl, ⟨m0, log_lt m0 m1⟩, _, rfl, p, _, rfl, dput_left k1, ?_⟩
            refine ⟨_, rfl, _, _, rfl, rfl, ⟨by decide, by decide, by decide⟩, _, _, rfl, rfl, Or.inl ⟨_, rfl, _, rfl, _, _, rfl, rfl, (by omega), ?_⟩⟩
            refine k _ _ (fmod_bounds m0).1 (fmod_bounds m0).2 ⟨a + 1, _, cs, ⟨upd_same, by rw [upd_ne ncp]; exact k2, h3, by omega, Int.ediv_nonneg ?_ (by omega)⟩, by omega⟩ (kk.trans kp_upd)
            show 0 ≤ 41 * a + 23 - 10 ^ 18
            omega
          · refine ⟨_, rfl, Or.inl ⟨_, rfl, _, _, rfl, rfl, (by show (2147483587 : Int) ≠ 0; decide), _, _, rfl, rfl, Or.inr ⟨by decide, by decide⟩, ?_⟩⟩
            refine ⟨_, rfl, _, _, rfl, rfl, Or.inl ⟨by decide, by decide⟩, _, rfl, _, _, rfl, rfl, Or.inr ⟨by omega, by omega⟩, ?_⟩
            refine ⟨_, _, rfl, rfl, _, rfl, _, _, rfl, rfl, Or.inl ⟨by decide, by decide⟩, _, _, rfl, rfl, _, _, rfl, rfl, ?_⟩
            refine ⟨_, rfl, Or.inl ⟨_, rfl, _, _, rfl, rfl, (by show (2147483629 : Int) ≠ 0; decide), ?_⟩⟩
            have hz := fmod_bounds (x := (41 * a + 23).fmod 2147483587 * 48271 + 40014 * a * a + 59 * a + 17) (m := 2147483629) (by decide)
            refine ⟨_, rfl, _, rfl, _, _, rfl, rfl, _, _, rfl, rfl, Or.inl ⟨by omega, by omega⟩, Or.inl ⟨_, rfl, _, _, rfl, rfl, (by show (2147483549 : Int) ≠ 0; decide), ?_⟩⟩
            refine ⟨_, rfl, _, rfl, _, _, rfl, rfl, Or.inl ?_, Or.inl ⟨_, rfl, _, _, rfl, rfl, (by show (2147483579 : Int) ≠ 0; decide), _, _, rfl, rfl, ⟨by decide, by decide⟩, Or.inl ⟨_, rfl, _, rfl, _, _, rfl, rfl, (by omega), ?_⟩⟩⟩
            · have hy := fmod_bounds (x := ((41 * a + 23).fmod 2147483587 * 48271 + 40014 * a * a + 59 * a + 17).fmod 2147483629 * (((41 * a + 23).fmod 2147483587 * 48271 + 40014 * a * a + 59 * a + 17).fmod 2147483629 + 69621)) (m := 2147483549) (by decide)
              exact ⟨by omega, by omega⟩
            exact k _ _ (fmod_bounds m0).1 (fmod_bounds m0).2 ⟨a + 1, l, cs, ⟨k1, k2, h3, by omega, h5⟩, by omega⟩ kk
        · refine ⟨_, rfl, Or.inl ⟨_, rfl, _, _, rfl, rfl, (by show (2147483587 : Int) ≠ 0; decide), _, _, rfl, rfl, Or.inr ⟨by decide, by decide⟩, ?_⟩⟩
          refine ⟨_, rfl, _, _, rfl, rfl, Or.inl ⟨by decide, by decide⟩, _, rfl, _, _, rfl, rfl, Or.inr ⟨by omega, by omega⟩, ?_⟩
          refine ⟨_, _, rfl, rfl, _, rfl, _, _, rfl, rfl, Or.inl ⟨by decide, by decide⟩, _, _, rfl, rfl, _, _, rfl, rfl, ?_⟩
          refine ⟨_, rfl, Or.inl ⟨_, rfl, _, _, rfl, rfl, (by show (2147483629 : Int) ≠ 0; decide), ?_⟩⟩
          have hz := fmod_bounds (x := (41 * a + 23).fmod 2147483587 * 48271 + 40014 * a * a + 59 * a + 17) (m := 2147483629) (by decide)
          refine ⟨_, rfl, _, rfl, _, _, rfl, rfl, _, _, rfl, rfl, Or.inl ⟨by omega, by omega⟩, Or.inl ⟨_, rfl, _, _, rfl, rfl, (by show (2147483549 : Int) ≠ 0; decide), ?_⟩⟩
          refine ⟨_, rfl, _, rfl, _, _, rfl, rfl, Or.inl ?_, Or.inl ⟨_, rfl, _, _, rfl, rfl, (by show (2147483579 : Int) ≠ 0; decide), _, _, rfl, rfl, ⟨by decide, by decide⟩, Or.inl ⟨_, rfl, _, rfl, _, _, rfl, rfl, (by omega), ?_⟩⟩⟩
          · have hy := fmod_bounds (x := ((41 * a + 23).fmod 2147483587 * 48271 + 40014 * a * a + 59 * a + 17).fmod 2147483629 * (((41 * a + 23).fmod 2147483587 * 48271 + 40014 * a * a + 59 * a + 17).fmod 2147483629 + 69621)) (m := 2147483549) (by decide)
            exact ⟨by omega, by omega⟩
          exact k _ _ (fmod_bounds m0).1 (fmod_bounds m0).2 ⟨a + 1, l, cs, ⟨k1, k2, h3, by omega, h5⟩, by omega⟩ kk
/-- the draw, as its callers have it -/
structure TxtD (K : PySem.W.Frag) (mg : Str → Option Value) (fD : Addr) : Prop extends TxtA K mg where
  m_law_draw : mg "_law_draw" = some (.ref fD)
  k_law_draw : PySem.W.keepIn K (.ref fD) = true
abbrev s__law_pick : Stmt := top 26
abbrev N__law_pick : List Str := ["_law_pen_here", "_law_items"]
abbrev P__law_pick : List Str := ["_law_pen_here", "_law_items"]
theorem sc__law_pick : FnScope N__law_pick P__law_pick (defScope s__law_pick) := ⟨rfl, rfl, rfl, by decide +kernel, rfl, by decide +kernel, by decide +kernel⟩

theorem ok_pickL {f fD : Addr} {fd fdD : FuncData} (F : Fun K "_law_pick" "_law_pick" s__law_pick f fd) (T : TxtD K mg fD) (FD : Fun K "_law_draw" "_law_draw" s__law_draw fD fdD) (b_law_draw : Binds K fdD P__law_draw []) : FnOk P w K mg base CX0 2 f fd P__law_pick (spPickL K) := by
  have G_law_draw : FnOk P w K mg base CX0 1 fD fdD P__law_draw spDraw := ok_draw FD T.toTxtA
  refine F.ok sc__law_pick (fun vs H Q E h => ?_) (fun cdv A outer s H vs Q E hr h => ?_)
  · obtain ⟨p, c, a, xs, n, rfl, _⟩ := h
    rfl
  · obtain ⟨p, c, a, xs, n, rfl, hp, hn, hS, h0, h1, k⟩ := h
    refine ⟨_, (pss_one (ps_ret (pe_ix ix_list (pv 1) (pe_call G_law_draw (hr.mono (by decide)) (by rfl) T.m_law_draw T.k_law_draw b_law_draw .nil pass0 (pa_cons (pv 0) (pa_cons (pe_callB call_len (by rfl) T.len PySem.boot_len (pa_cons (pv 1) pa_nil)) pa_nil))) (fun _ _ => rfl)))), ?_⟩
    refine ⟨_, rfl, _, rfl, _, rfl, _, _, rfl, Or.inl ⟨_, hS, rfl⟩, p, c, _, n, rfl, hp, hn, by omega, by omega, fun d H' d0 d1 hp' kk => ?_⟩
    obtain ⟨kvs, hd⟩ := hp.dk
    have hj : d.toNat < xs.length := by omega
    exact ⟨a, xs, d, _, rfl, rfl, kp_seq kk hd hS, at_of (Int.toNat_of_nonneg d0).symm (List.getElem?_eq_getElem hj), k _ _ _ (List.getElem?_eq_getElem hj) hp' kk⟩
theorem ok_pickS {f fD : Addr} {fd fdD : FuncData} (F : Fun K "_law_pick" "_law_pick" s__law_pick f fd) (T : TxtD K mg fD) (FD : Fun K "_law_draw" "_law_draw" s__law_draw fD fdD) (b_law_draw : Binds K fdD P__law_draw []) : FnOk P w K mg base CX0 2 f fd P__law_pick spPickS := by
  have G_law_draw : FnOk P w K mg base CX0 1 fD fdD P__law_draw spDraw := ok_draw FD T.toTxtA
  refine F.ok sc__law_pick (fun vs H Q E h => ?_) (fun cdv A outer s H vs Q E hr h => ?_)
  · obtain ⟨p, c, z, n, rfl, _⟩ := h
    rfl
  · obtain ⟨p, c, z, n, rfl, hp, hn, h0, h1, k⟩ := h
    refine ⟨_, (pss_one (ps_ret (pe_ix ix_str (pv 1) (pe_call G_law_draw (hr.mono (by decide)) (by rfl) T.m_law_draw T.k_law_draw b_law_draw .nil pass0 (pa_cons (pv 0) (pa_cons (pe_callB call_len (by rfl) T.len PySem.boot_len (pa_cons (pv 1) pa_nil)) pa_nil))) (fun _ _ => rfl)))), ?_⟩
    have hz : z.length ≤ sizeLine := Nat.le_of_lt (small1000 h1)
    refine ⟨_, rfl, _, rfl, _, rfl, _, _, rfl, ⟨hz, rfl⟩, p, c, _, n, rfl, hp, hn, by omega, by omega, fun d H' d0 d1 hp' kk => ?_⟩
    have hj : d.toNat < (TL.tl z).length := by rw [← TL.len_tl]; omega
    exact ⟨z, d, _, rfl, rfl, hz, at_of' (Int.toNat_of_nonneg d0).symm (List.getElem?_eq_getElem hj), k _ _ _ (List.getElem?_eq_getElem hj) hp' kk⟩
end
end Vf
set_option Elab.async false
set_option linter.all false
set_option maxRecDepth 100000
set_option maxHeartbeats 4000000
/-! nested data -/
namespace Vf
open PySem L2 PyProof.Rows
def Dat : HO → Prop
  | .lst _ => True
  | .tup _ => True
  | .frz _ _ => True
  | _ => False
/-- lists and tuples stand as they stood -/
def Kl (H H' : Hp) : Prop := ∀ b o, H b = some o → Dat o → H' b = some o
theorem Kl.refl (H : Hp) : Kl H H := fun _ _ e _ => e
theorem Kl.trans {H H1 H2 : Hp} (a : Kl H H1) (b : Kl H1 H2) : Kl H H2 := fun c o e d => b c o (a c o e d) d
theorem Kl.same {H H' : Hp} (s : Same H H') : Kl H H' := fun b o e _ => s b o e
theorem Kl.kp {H H' : Hp} {p : Addr} {kvs : List (Key × V)} (k : Kp p H H') (hp : H p = some (.dK kvs)) : Kl H H' := fun b o e d => k b o e fun z => by
  rw [z, hp] at e
  cases e
  exact d
theorem Kl.del {H H' : Hp} (k : Kl H H') (a : Addr) : Kl (L2.del H a) (L2.del H' a) := fun b o e d => by
  by_cases hb : b = a
  · rw [hb, del_same] at e; cases e
  · rw [del_ne hb] at e ⊢
    exact k b o e d
theorem Kl.undel (H : Hp) (a : Addr) : Kl (L2.del H a) H := fun b o e d => by
  by_cases hb : b = a
  · rw [hb, del_same] at e; cases e
  · rw [del_ne hb] at e
    exact e
theorem del_upd (H : Hp) (a : Addr) (o : HO) : L2.del (L2.upd H a o) a = L2.del H a := by
  funext b
  by_cases hb : b = a
  · rw [hb, del_same, del_same]
  · rw [del_ne hb, del_ne hb, upd_ne hb]
theorem Kl.rd {H H' : Hp} {a : Addr} {u : HO} (k : Kl H H') (d : Dat u) (h : Rd H a u) : Rd H' a u := by
  rcases h with h | ⟨o, h⟩
  · exact .inl (k _ _ h d)
  · exact .inr ⟨o, k _ _ h trivial⟩
theorem Kl.seq {K : PySem.W.Frag} {H H' : Hp} {a : Addr} {xs : List V} (k : Kl H H') (h : SqL K H a xs) : SqL K H' a xs := by
  rcases h with h | h
  · exact .inl (k.rd trivial h)
  · exact .inr h
theorem Kl.seqT {K : PySem.W.Frag} {H H' : Hp} {a : Addr} {xs : List V} (k : Kl H H') (h : SqT K H a xs) : SqT K H' a xs := by
  rcases h with h | h
  · exact .inl (k.rd trivial h)
  · exact .inr h
end Vf
namespace L2
open PySem PyProof.Rows Vf
mutual
theorem Dp.kl {K : PySem.W.Frag} {H H' : Hp} (k : Kl H H') : ∀ (d : PyData) (v : V), Dp K H v d → Dp K H' v d
  | .none, _, h => by cases h; exact .non
  | .bool b, _, h => by cases h; exact .bl b
  | .int i, _, h => by cases h; exact .int i
  | .str x, _, h => by cases h; exact .str x
  | .list ds, _, h => by
    cases h with
    | lst a b => exact .lst (k.seq a) (DpAll.kl k ds _ b)
  | .tuple ds, _, h => by
    cases h with
    | tup a b => exact .tup (k.seqT a) (DpAll.kl k ds _ b)
  | .dict kvs, _, h => by cases h
theorem DpAll.kl {K : PySem.W.Frag} {H H' : Hp} (k : Kl H H') : ∀ (ds : List PyData) (vs : List V), DpAll K H vs ds → DpAll K H' vs ds
  | [], _, h => by cases h; exact .nil
  | d :: ds, _, h => by
    cases h with
    | cons a b => exact .cons (Dp.kl k d _ a) (DpAll.kl k ds _ b)
end
theorem Dp.mv {K : PySem.W.Frag} {H H' : Hp} {v : V} {d : PyData} (h : Dp K H v d) (k : Kl H H') : Dp K H' v d := Dp.kl k d v h
theorem DpAll.mv {K : PySem.W.Frag} {H H' : Hp} {vs : List V} {ds : List PyData} (h : DpAll K H vs ds) (k : Kl H H') : DpAll K H' vs ds := DpAll.kl k ds vs h
theorem DpAll.length {K : PySem.W.Frag} {H : Hp} : ∀ {vs : List V} {ds : List PyData}, DpAll K H vs ds → vs.length = ds.length
  | _, _, .nil => rfl
  | _, _, .cons _ t => congrArg Nat.succ (DpAll.length t)
theorem DpAll.get {K : PySem.W.Frag} {H : Hp} : ∀ {vs : List V} {ds : List PyData} {i : Nat} {d : PyData}, DpAll K H vs ds → ds[i]? = some d → ∃ v, vs[i]? = some v ∧ Dp K H v d
  | _, _, _, _, .nil, e => by simp at e
  | _, _, 0, _, .cons h t, e => by simp at e; subst e; exact ⟨_, rfl, h⟩
  | _, _, i + 1, d, .cons h t, e => by
    obtain ⟨v, h1, h2⟩ := DpAll.get (i := i) (d := d) t (by simpa using e)
    exact ⟨v, by simpa using h1, h2⟩
theorem DpAll.append {K : PySem.W.Frag} {H : Hp} : ∀ {vs ws : List V} {ds es : List PyData}, DpAll K H vs ds → DpAll K H ws es → DpAll K H (vs ++ ws) (ds ++ es)
  | _, _, _, _, .nil, h => h
  | _, _, _, _, .cons a t, h => .cons a (DpAll.append t h)
theorem DpAll.snoc {K : PySem.W.Frag} {H : Hp} {vs : List V} {v : V} {ds : List PyData} {d : PyData} (h : DpAll K H vs ds) (g : Dp K H v d) : DpAll K H (vs ++ [v]) (ds ++ [d]) := h.append (.cons g .nil)
theorem DpAll.take {K : PySem.W.Frag} {H : Hp} : ∀ {vs : List V} {ds : List PyData} (n : Nat), DpAll K H vs ds → DpAll K H (vs.take n) (ds.take n)
  | _, _, 0, _ => .nil
  | _, _, n + 1, .nil => .nil
  | _, _, n + 1, .cons a t => .cons a (DpAll.take n t)
theorem DpAll.drop {K : PySem.W.Frag} {H : Hp} : ∀ {vs : List V} {ds : List PyData} (n : Nat), DpAll K H vs ds → DpAll K H (vs.drop n) (ds.drop n)
  | _, _, 0, h => h
  | _, _, n + 1, .nil => .nil
  | _, _, n + 1, .cons a t => DpAll.drop n t
theorem Dp.listE {K : PySem.W.Frag} {H : Hp} {v : V} {ds : List PyData} (h : Dp K H v (.list ds)) : ∃ a xs, v = .ref a ∧ SqL K H a xs ∧ DpAll K H xs ds := by
  cases h with
  | lst a b => exact ⟨_, _, rfl, a, b⟩
theorem Dp.tupE {K : PySem.W.Frag} {H : Hp} {v : V} {ds : List PyData} (h : Dp K H v (.tuple ds)) : ∃ a xs, v = .ref a ∧ SqT K H a xs ∧ DpAll K H xs ds := by
  cases h with
  | tup a b => exact ⟨_, _, rfl, a, b⟩
theorem Dp.intE {K : PySem.W.Frag} {H : Hp} {v : V} {i : Int} (h : Dp K H v (.int i)) : v = .int i := by
  cases h; rfl
theorem Dp.strE {K : PySem.W.Frag} {H : Hp} {v : V} {i : Str} (h : Dp K H v (.str i)) : v = .str i := by
  cases h; rfl
theorem dpAll_ints (K : PySem.W.Frag) (H : Hp) : ∀ cs : List Int, DpAll K H (cs.map V.int) (cs.map PyData.int)
  | [] => .nil
  | c :: r => .cons (.int c) (dpAll_ints K H r)
theorem dpAll_intsE {K : PySem.W.Frag} {H : Hp} : ∀ {cs : List Int} {vs : List V}, DpAll K H vs (cs.map PyData.int) → vs = cs.map V.int
  | [], _, h => by cases h; rfl
  | c :: r, _, h => by
    cases h with
    | cons a b => rw [a.intE, dpAll_intsE b]; rfl
theorem dpAll_strs (K : PySem.W.Frag) (H : Hp) : ∀ cs : List Str, DpAll K H (cs.map V.str) (cs.map PyData.str)
  | [] => .nil
  | c :: r => .cons (.str c) (dpAll_strs K H r)
theorem dpAll_strsE {K : PySem.W.Frag} {H : Hp} : ∀ {cs : List Str} {vs : List V}, DpAll K H vs (cs.map PyData.str) → vs = cs.map V.str
  | [], _, h => by cases h; rfl
  | c :: r, _, h => by
    cases h with
    | cons a b => rw [a.strE, dpAll_strsE b]; rfl
end L2
namespace Vf
open PySem L2 PyProof.Rows
/-! a code's data -/
abbrev Row := List (Int × Int)
def tupD (gb : Int × Int) : PyData := .tuple [.int gb.1, .int gb.2]
def rowD (r : Row) : PyData := .list (r.map tupD)
def rowT (r : Row) : PyData := .tuple (r.map tupD)
def rowsD (rs : List Row) : PyData := .list (rs.map rowD)
def rowsT (rs : List Row) : PyData := .tuple (rs.map rowT)
def intsD (es : List Int) : PyData := .list (es.map PyData.int)
def intsT (es : List Int) : PyData := .tuple (es.map PyData.int)
def codeD (z : Str) (rs : List Row) (es : List Int) : PyData := .tuple [.str z, rowsD rs, intsD es]
/-- rows and ends of a code with so many values -/
structure Good (m : Nat) (rs : List Row) (es : List Int) : Prop where
  len : es.length = rs.length
  pos : 0 < rs.length
  row : ∀ r ∈ rs, r.length = m ∧ ∀ gb ∈ r, 0 ≤ gb.1 ∧ gb.1 < rs.length ∧ 0 ≤ gb.2 ∧ gb.2 < 100
  ends : ∀ e ∈ es, 0 ≤ e ∧ e < 100
theorem del_some {H : Hp} {a b : Addr} {o : HO} (e : L2.del H a b = some o) : b ≠ a ∧ H b = some o := by
  by_cases hb : b = a
  · rw [hb, del_same] at e; cases e
  · rw [del_ne hb] at e
    exact ⟨hb, e⟩
/-- a row of a code of c states -/
def RowOk (m : Nat) (c : Int) (r : Row) : Prop := r.length = m ∧ ∀ gb ∈ r, 0 ≤ gb.1 ∧ gb.1 < c ∧ 0 ≤ gb.2 ∧ gb.2 < 100
/-- a comprehension without a test -/
theorem lcYes {σ : L2.St} {H : Hp} {A B : Hp → Prop} (h : A H) : tYes σ H (fun b H' => if b = true then A H' else B H') := by
  show (if true = true then A H else B H)
  rw [if_pos rfl]
  exact h
end Vf
namespace L2
theorem Same.put {H H' : Hp} {r : PySem.Addr} {o : HO} (s : Same H H') (h : H r = none) : Same H (upd H' r o) := fun b u e => by
  rw [upd_ne (ne_of_none e h)]
  exact s b u e
end L2
set_option Elab.async false
set_option linter.all false
set_option maxRecDepth 100000
set_option maxHeartbeats 4000000
/-! for i, c in enumerate(text); walks of texts -/
namespace Vf
open PySem L2 PyProof.Rows
/-- the text x, each sign in a new pair with its place -/
def Itse (x : Str) : It :=
  ⟨fun i _ => i < x.cps.size, fun i H v H' => ∃ T c, v = .ref T ∧ H T = none ∧ H' = L2.upd H T (.tup [.int (i : Nat), .str (sg c)]) ∧ x.cps[i]? = some c, fun i _ => x.cps.size ≤ i⟩
theorem turn_enumS {P : Program} {w : World} {K : PySem.W.Frag} {elts : List Expr} {kk : Nat} {tpos : Pos} (x : Str) (t : Tok) (e it : Addr) :
    Turn P w K (.Tuple elts kk tpos) (Itse x) [e, it] e (fun i h => (∃ old, IsEnum h e it ((i : Nat) : Int) old) ∧ h.IsStrIter it (strIterType x) x t i ∧ e ≠ it ∧ i ≤ x.cps.size) where
  mem := by simp
  obj := fun i h st b hb => by
    obtain ⟨⟨old, he⟩, ⟨o, ho, hc, hd⟩, _⟩ := st
    have e' : b = e ∨ b = it := by simpa using hb
    rcases e' with z | z
    · rw [z]; exact ⟨_, he, fun v q => nomatch q⟩
    · rw [z]; exact ⟨o, ho, fun v q => by rw [hd] at q; cases q⟩
  keep := fun i h h' st k => let ⟨⟨old, he⟩, ⟨o, ho, r⟩, hne, hle⟩ := st; ⟨⟨old, k e (by simp) _ he⟩, ⟨o, k it (by simp) o ho, r⟩, hne, hle⟩
  item := by
    intro X hP hw hK hc i pins s σ H E I hf st hg
    subst hP hw hK
    obtain ⟨⟨old, he⟩, hit, hne, hle⟩ := st
    have hg : i < x.cps.size := hg
    have hel : e < s.heap.objs.size := Heap.lt_size he
    have hil : it < s.heap.objs.size := by obtain ⟨_, q, _⟩ := hit; exact Heap.lt_size q
    have D : Draws X.prog X.w X.A.in1 it [it] x.cps.size (fun i v => ∃ c u, x.cps[i]? = some c ∧ v = .str ⟨#[c]⟩ u) (fun i h => h.IsStrIter it (strIterType x) x t i) := Draws.text (A := X.A.in1) (show X.A.in1.handled = none from I.ok.hd hc) it x t
    refine wpAny_pyNext_enum_itemC D he hit hg hne (by simpa using hne) fun y h' tk hy ho hit' hT hsz hk => ?_
    obtain ⟨c, u, hcx, rfl⟩ := hy
    refine ⟨_, rfl, wpAny_letOwnedTupleGo_enum (s := { s with heap := h', toks := tk + 1 }) ho fun h'' he' sb => ?_⟩
    have hT2 : h''.get? s.heap.objs.size = some { cls := .type "tuple", data := .seq #[.int i tk, .str ⟨#[c]⟩ u] } := (sb.2 _ (Nat.ne_of_gt hel)).trans hT
    have new : ObjOk X.prog X.w (L2.upd H s.heap.objs.size (.tup [.int (i : Nat), .str (sg c)])) h'' s.heap.objs.size (.tup [.int (i : Nat), .str (sg c)]) :=
      ⟨by show 2 ≤ sizeLine; decide, [.int i tk, .str ⟨#[c]⟩ u], .cons ⟨_, rfl⟩ (.cons ⟨_, rfl⟩ .nil), ⟨_, hT2, rfl, _, rfl⟩⟩
    have I1 : Inv X pins σ (L2.upd H s.heap.objs.size (.tup [.int (i : Nat), .str (sg c)])) { s with heap := h'', toks := tk + 1 } :=
      I.turnedNew (ch := [e, it]) (fun b ob hb q => (sb.2 b (fun z => hb (by simp [z]))).trans (hk b ob (fun z => hb (by simp [z])) (fun z => hb (by simp [z])) q)) hf (Nat.le_refl _) new
    obtain ⟨oi, hoi, r⟩ := hit'
    refine ⟨.ref s.heap.objs.size, _, I1, rfl, ⟨_, c, rfl, I.hok.fresh (Nat.le_refl _), rfl, hcx⟩, ⟨⟨.str ⟨#[c]⟩ u, ?_⟩, ⟨oi, (sb.2 it (Ne.symm hne)).trans hoi, r⟩, hne, hg⟩, fun b hb => ?_⟩
    · have e1 : ((i + 1 : Nat) : Int) = (i : Int) + 1 := by omega
      rw [e1]; exact he'
    · have hb' : b < s.heap.objs.size := by
        have e' : b = e ∨ b = it := by simpa using hb
        rcases e' with z | z
        · rw [z]; exact hel
        · rw [z]; exact hil
      rw [upd_ne (Nat.ne_of_lt hb')]
      exact (hf b hb).1
  done := by
    intro X hP hw hK hc i pins s σ H E I hf st hg
    subst hP hw hK
    obtain ⟨⟨old, he⟩, hit, hne, hle⟩ := st
    have hg : x.cps.size ≤ i := hg
    have ei : i = x.cps.size := Nat.le_antisymm hle hg
    subst ei
    obtain ⟨f0, f1, f2, f3, f4, f5⟩ := hf it (by simp)
    have D : Draws X.prog X.w X.A.in1 it [it] x.cps.size (fun i v => ∃ c u, x.cps[i]? = some c ∧ v = .str ⟨#[c]⟩ u) (fun i h => h.IsStrIter it (strIterType x) x t i) := Draws.text (A := X.A.in1) (show X.A.in1.handled = none from I.ok.hd hc) it x t
    exact wpAny_pyNext_enum_endD D he hit fun h' eb => ⟨rfl, I.turned (t' := s.toks) (fun b o hb q => eb b o hb q) f0 f1 f3 f4 f5⟩
  self := fun A i s Q E st h => let ⟨⟨_, he⟩, _⟩ := st; wpAny_pyIter_enum he h
def iEnumS (ta : TA) : TI := fun σ H R => ta σ H fun vs H1 => ∃ z, vs = [.str z] ∧ R (Itse z) H1
theorem pi_enumS {X : Cx} {e : Expr} {ta : TA} {p pos tpos : Pos} {elts : List Expr} {kk : Nat} (hg : Gl X "enumerate") (hm : X.mg "enumerate" = none) (ha : PA X [e] ta) (hs : starEach [e] X.env = [(false, eval e X.env)] := by rfl) :
    PI X (.Tuple elts kk tpos) (.Call (.Name "enumerate" p) [e] [] pos) (iEnumS ta) := by
  refine ⟨fun pins s σ H R I h => ?_⟩
  refine Call_ (ld_blt I hg hm boot_enumerate (PyProof.Rows.callWith_type1 (thn (ha.run pos pins s σ H _ I h) fun us s1 ⟨vs, H1, I1, r1, q1⟩ => ?_) hs rfl))
  obtain ⟨x, ex, q⟩ := q1
  subst ex
  cases r1 with
  | cons r rr =>
    cases rr
    obtain ⟨t, rfl⟩ := r
    refine call_enumerate_str fun h' he hit hsz hk => wpAny_pyIter_enum he ?_
    have I2 : Inv X pins σ H1 { s1 with heap := h' } := I1.kept (t' := s1.toks) hk
    refine ⟨s1.heap.objs.size + 1, [s1.heap.objs.size + 1, s1.heap.objs.size], _, _, H1, rfl, I2, turn_enumS x t (s1.heap.objs.size + 1) s1.heap.objs.size, ⟨⟨.none, he⟩, hit, Nat.succ_ne_self _, Nat.zero_le _⟩, fun b hb => ?_, q⟩
    have e' : b = s1.heap.objs.size + 1 ∨ b = s1.heap.objs.size := by simpa using hb
    have hle : s1.heap.objs.size ≤ b := by
      rcases e' with z | z
      · rw [z]; exact Nat.le_add_right _ _
      · rw [z]; exact Nat.le_refl _
    exact I1.fpOk hle (I1.hok.fresh hle)
theorem walk_strS {z : Str} : Walk (Its z) z.length (fun _ => True) (fun i H v H' => H' = H ∧ ∃ c, (TL.tl z)[i]? = some c ∧ v = .str (sg c)) :=
  ⟨fun _ _ hi _ => hi, fun _ _ => Nat.le_refl _, fun i _ _ _ _ _ y => ⟨y.1, by obtain ⟨c, h, e⟩ := y.2; exact ⟨c, by simpa using h, e⟩⟩⟩
theorem walk_enumS {z : Str} : Walk (Itse z) z.length (fun _ => True) (fun i H v H' => ∃ T c, v = .ref T ∧ H T = none ∧ H' = L2.upd H T (.tup [.int (i : Nat), .str (sg c)]) ∧ (TL.tl z)[i]? = some c) :=
  ⟨fun _ _ hi _ => hi, fun _ _ => Nat.le_refl _, fun i _ _ _ _ _ y => by obtain ⟨T, c, h1, h2, h3, h4⟩ := y; exact ⟨T, c, h1, h2, h3, by simpa using h4⟩⟩
/-! rules with the written part named, for a comprehension's block -/
section
variable {X : Cx} {K : PySem.W.Frag} {tg : Expr}
def rTupOf (K : PySem.W.Frag) : List V → Hp → VK → Prop := fun xs H Q => ∃ p ys, xs = [.ref p] ∧ ((SqL K H p ys ∧ ∀ l, H l = none → Q (.ref l) (L2.upd H l (.tup ys))) ∨ (SqT K H p ys ∧ Q (.ref p) H))
def rLstOf (K : PySem.W.Frag) : List V → Hp → VK → Prop := fun xs H Q => ∃ p ys, xs = [.ref p] ∧ (SqL K H p ys ∨ SqT K H p ys) ∧ ∀ l, H l = none → Q (.ref l) (L2.upd H l (.lst ys))
def rLenOf (K : PySem.W.Frag) : List V → Hp → VK → Prop := fun xs H Q => ∃ x n, xs = [x] ∧ LenV K x H n ∧ Q (.int (n : Nat)) H
theorem call_tupleK (hK : X.K = K) : CallR X (.type "tuple") (rTupOf K) := by subst hK; exact call_tuple_of
theorem call_listK (hK : X.K = K) : CallR X (.type "list") (rLstOf K) := by subst hK; exact call_list_of
theorem call_lenK (hK : X.K = K) : CallR X (.builtin "len") (rLenOf K) := by subst hK; exact call_len
theorem pi_listK (hK : X.K = K) {l : Expr} {tl : TE} (hl : PE X l tl) : PI X tg l (iList K tl) := by subst hK; exact pi_list hl
theorem pi_tupK (hK : X.K = K) {l : Expr} {tl : TE} (hl : PE X l tl) : PI X tg l (iTup K tl) := by subst hK; exact pi_tup hl
theorem ix_listK (hK : X.K = K) : IxR X (rIxL K) := by subst hK; exact ix_list
theorem ix_tupK (hK : X.K = K) : IxR X (rIxT K) := by subst hK; exact ix_tup
end
theorem pi_or {X : Cx} {tg e : Expr} {w1 w2 : TI} (h1 : PI X tg e w1) (h2 : PI X tg e w2) : PI X tg e (fun σ H R => w1 σ H R ∨ w2 σ H R) :=
  ⟨fun pins s σ H R I h => h.elim (fun h => h1.run pins s σ H R I h) fun h => h2.run pins s σ H R I h⟩
end Vf
set_option Elab.async false
set_option linter.all false
set_option maxRecDepth 100000
set_option maxHeartbeats 4000000
/-! for i, x in enumerate(tuple) -/
namespace Vf
open PySem L2 PyProof.Rows
theorem meets_enumerate_newT (l : Addr) (o : Obj) (items : Array Value) (ht : o.cls = .type "tuple") (hd : ∃ n, o.data = .seq items n) :
    Meets (Builtin.«enumerate.__new__» ⟨[.type "enumerate", .ref l], []⟩) (fun _ R s => s.heap.get? l = some o ∧
      R (.ok (.ret (.ref (s.heap.push { cls := .type "tuple_iterator", data := .fields #[.ref l, .int 0 0] }).objs.size)))
        { s with heap := (s.heap.push { cls := .type "tuple_iterator", data := .fields #[.ref l, .int 0 0] }).push { cls := .type "enumerate", data := .fields #[.none, .bool false, .ref s.heap.objs.size, rawInt 0, .none, .none] } }) :=
  .of_wp fun prog w A R s h => by
    obtain ⟨hl, h⟩ := h
    have hT : s.heap.IsTuple l items := ⟨o, hl, ht, hd⟩
    obtain ⟨hp, g, d, tk, os⟩ := s
    have hsub := sub_enumerate
    wp_walk
    refine wpAny_stack_any fun st => wpAny_pure ?_
    split
    · rename_i c _ _ _ _ _
      cases (c == Value.type "enumerate")
      · wp_walk using wpAny_pyIter_tuple hT
        exact ⟨_, rfl, h⟩
      · wp_walk using wpAny_pyIter_tuple hT
        exact ⟨_, rfl, h⟩
    · wp_walk using wpAny_pyIter_tuple hT
      exact ⟨_, rfl, h⟩
section
variable {prog : Program} {w : World} {A : Around} {E : Value → Shared → Prop} {s : Shared}
theorem call_enumerate_tuple {l : Addr} {items : Array Value} {Q : Value → Shared → Prop} (hL : s.heap.IsTuple l items)
    (h : ∀ h', IsEnum h' (s.heap.objs.size + 1) s.heap.objs.size 0 .none → h'.IsTupleIter s.heap.objs.size l 0 → h'.objs.size = s.heap.objs.size + 2 →
      (∀ b o, s.heap.get? b = some o → h'.get? b = some o) → Q (.ref (s.heap.objs.size + 1)) { s with heap := h' }) :
    wpAny (model prog w) A (call (.type "enumerate") [.ref l]) Q E s := by
  obtain ⟨o, hl, hc, hd⟩ := hL
  refine callType_new F.called_enumerate (by decide) (F.typeCall_enumerate_1 _) (F.newCall_enumerate_1 _) (fun obj => F.args_object_init_2 obj _) F.entry_enumerate_new
    (meets_enumerate_newT l o items hc hd) ⟨hl, ?_⟩
  have hz : (s.heap.push { cls := .type "tuple_iterator", data := .fields #[.ref l, .int 0 0] }).objs.size = s.heap.objs.size + 1 := Heap.size_push ..
  show _ ∧ _
  rw [hz]
  have he : IsEnum ((s.heap.push { cls := .type "tuple_iterator", data := .fields #[.ref l, .int 0 0] }).push
      { cls := .type "enumerate", data := .fields #[.none, .bool false, .ref s.heap.objs.size, rawInt 0, .none, .none] }) (s.heap.objs.size + 1) s.heap.objs.size 0 .none := by
    have := Heap.get?_push_size (s.heap.push { cls := .type "tuple_iterator", data := .fields #[.ref l, .int 0 0] })
      (o := { cls := .type "enumerate", data := .fields #[.none, .bool false, .ref s.heap.objs.size, rawInt 0, .none, .none] }) rfl
    rw [hz] at this; exact this
  refine ⟨⟨_, he, rfl⟩, h _ he ⟨_, Heap.get?_push_of_some _ (Heap.get?_push_size _ rfl), rfl, rfl⟩ (by rw [Heap.size_push, hz]) fun b o x => Heap.get?_push_of_some _ (Heap.get?_push_of_some _ x)⟩
end
/-- the tuple at a, each item in a new pair -/
def Itet (K : PySem.W.Frag) (a : Addr) : It :=
  ⟨fun i H => ∃ (xs : List V) (x : V), SqT K H a xs ∧ xs[i]? = some x, fun i H v H' => ∃ T x, v = .ref T ∧ H T = none ∧ H' = L2.upd H T (.tup [.int (i : Nat), x]) ∧ ∀ xs, SqT K H a xs → xs[i]? = some x, fun i H => ∃ xs : List V, SqT K H a xs ∧ xs.length ≤ i⟩
theorem drawsAtEnd {prog : Program} {w : World} {A : Around} (hh : A.handled = none) (it t : Addr) (items : Array Value) (i : Nat) (hi : items[i]? = none) :
    Draws prog w A it [it, t] i (fun _ _ => False) (fun j h => j = i ∧ h.IsTupleIter it t j ∧ h.IsTuple t items) where
  live := fun _ _ st => let ⟨o, ho, _⟩ := st.2.1; ⟨o, ho⟩
  frame := fun _ _ _ st hk => ⟨st.1, st.2.1.at fun o e => hk it (by simp) o e, st.2.2.at fun o e => hk t (by simp) o e⟩
  item := fun j s Q E hj st hQ => absurd st.1 (Nat.ne_of_lt hj)
  done := fun s Q E st hE => wpAny_nextOf_tuple_end hh st.2.1 st.2.2 hi hE
theorem turn_enumT {P : Program} {w : World} {K : PySem.W.Frag} {elts : List Expr} {kk : Nat} {tpos : Pos} (a e it : Addr) :
    Turn P w K (.Tuple elts kk tpos) (Itet K a) [e, it] e (fun i h => (∃ old, IsEnum h e it ((i : Nat) : Int) old) ∧ h.IsTupleIter it a i ∧ e ≠ it) where
  mem := by simp
  obj := fun i h st b hb => by
    obtain ⟨⟨old, he⟩, ⟨o, ho, hc, hd⟩, _⟩ := st
    have e' : b = e ∨ b = it := by simpa using hb
    rcases e' with z | z
    · rw [z]; exact ⟨_, he, fun v q => nomatch q⟩
    · rw [z]; exact ⟨o, ho, fun v q => by rw [hd] at q; cases q⟩
  keep := fun i h h' st k => let ⟨⟨old, he⟩, hi, hne⟩ := st; ⟨⟨old, k e (by simp) _ he⟩, hi.at fun o q => k it (by simp) o q, hne⟩
  item := by
    intro X hP hw hK hc i pins s σ H E I hf st hg
    subst hP hw hK
    obtain ⟨⟨old, he⟩, hit, hne⟩ := st
    obtain ⟨xs, x, hq, hx⟩ := hg
    obtain ⟨its, rv, p, hz⟩ := I.tuple hq
    obtain ⟨u0, hu, ru⟩ := rv.get hx
    have hel : e < s.heap.objs.size := Heap.lt_size he
    have hil : it < s.heap.objs.size := by obtain ⟨_, q, _⟩ := hit; exact Heap.lt_size q
    have hae : a ≠ e := fun z => by
      obtain ⟨o, ho, hc, _⟩ := p
      rw [z] at ho
      have : o = _ := Option.some.inj (ho.symm.trans he)
      rw [this] at hc
      exact absurd (Value.type.inj hc) (by decide)
    have hai : a ≠ it := fun z => by
      obtain ⟨o, ho, hc, _⟩ := p
      obtain ⟨o2, ho2, hc2, _⟩ := hit
      rw [z] at ho
      rw [Option.some.inj (ho.symm.trans ho2), hc2] at hc
      exact absurd (Value.type.inj hc) (by decide)
    have D := Draws.tuple (prog := X.prog) (w := X.w) (A := X.A.in1) (show X.A.in1.handled = none from I.ok.hd hc) it a hai its.toArray
    have hlt : i < its.toArray.size := by
      obtain ⟨h, _⟩ := List.getElem?_eq_some_iff.mp hu
      simpa using h
    refine wpAny_pyNext_enum_itemC D he ⟨hit, p⟩ hlt hne (by simp [hne, Ne.symm hae]) fun y h' tk hy ho hit' hT hsz hk => ?_
    obtain rfl : u0 = y := by
      have : its.toArray[i]? = some u0 := by simpa using hu
      exact Option.some.inj (this.symm.trans hy)
    refine ⟨_, rfl, wpAny_letOwnedTupleGo_enum (s := { s with heap := h', toks := tk + 1 }) ho fun h'' he' sb => ?_⟩
    have hT2 : h''.get? s.heap.objs.size = some { cls := .type "tuple", data := .seq #[.int i tk, u0] } := (sb.2 _ (Nat.ne_of_gt hel)).trans hT
    have new : ObjOk X.prog X.w (L2.upd H s.heap.objs.size (.tup [.int (i : Nat), x])) h'' s.heap.objs.size (.tup [.int (i : Nat), x]) :=
      ⟨by show 2 ≤ sizeLine; decide, [.int i tk, u0], .cons ⟨_, rfl⟩ (.cons ru .nil), ⟨_, hT2, rfl, _, rfl⟩⟩
    have I1 : Inv X pins σ (L2.upd H s.heap.objs.size (.tup [.int (i : Nat), x])) { s with heap := h'', toks := tk + 1 } :=
      I.turnedNew (ch := [e, it]) (fun b ob hb q => (sb.2 b (fun z => hb (by simp [z]))).trans (hk b ob (fun z => hb (by simp [z])) (fun z => hb (by simp [z])) q)) hf (Nat.le_refl _) new
    refine ⟨.ref s.heap.objs.size, _, I1, rfl, ⟨_, x, rfl, I.hok.fresh (Nat.le_refl _), rfl, fun ys hy => ?_⟩, ⟨⟨u0, ?_⟩, hit'.1.at fun o q => (sb.2 it (Ne.symm hne)).trans q, hne⟩, fun b hb => ?_⟩
    · rw [I.tuple_inj hy hq]; exact hx
    · have e1 : ((i + 1 : Nat) : Int) = (i : Int) + 1 := by omega
      rw [e1]; exact he'
    · have hb' : b < s.heap.objs.size := by
        have e' : b = e ∨ b = it := by simpa using hb
        rcases e' with z | z
        · rw [z]; exact hel
        · rw [z]; exact hil
      rw [upd_ne (Nat.ne_of_lt hb')]
      exact (hf b hb).1
  done := by
    intro X hP hw hK hc i pins s σ H E I hf st hg
    subst hP hw hK
    obtain ⟨⟨old, he⟩, hit, hne⟩ := st
    obtain ⟨xs, hq, hx⟩ := hg
    obtain ⟨its, rv, p, hz⟩ := I.tuple hq
    obtain ⟨f0, f1, f2, f3, f4, f5⟩ := hf it (by simp)
    have hl := rv.length
    have hai : a ≠ it := fun z => by
      obtain ⟨o, ho, hc, _⟩ := p
      obtain ⟨o2, ho2, hc2, _⟩ := hit
      rw [z] at ho
      rw [Option.some.inj (ho.symm.trans ho2), hc2] at hc
      exact absurd (Value.type.inj hc) (by decide)
    have D := drawsAtEnd (prog := X.prog) (w := X.w) (A := X.A.in1) (show X.A.in1.handled = none from I.ok.hd hc) it a its.toArray i (by simp; omega)
    exact wpAny_pyNext_enum_endD D he ⟨rfl, hit, p⟩ fun h' eb => ⟨rfl, I.turned (t' := s.toks) (fun b o hb q => eb b o hb q) f0 f1 f3 f4 f5⟩
  self := fun A i s Q E st h => let ⟨⟨_, he⟩, _⟩ := st; wpAny_pyIter_enum he h
def iEnumT (K : PySem.W.Frag) (ta : TA) : TI := fun σ H R => ta σ H fun vs H1 => ∃ a xs, vs = [.ref a] ∧ SqT K H1 a xs ∧ R (Itet K a) H1
theorem pi_enumT {X : Cx} {e : Expr} {ta : TA} {p pos tpos : Pos} {elts : List Expr} {kk : Nat} (hg : Gl X "enumerate") (hm : X.mg "enumerate" = none) (ha : PA X [e] ta) (hs : starEach [e] X.env = [(false, eval e X.env)] := by rfl) :
    PI X (.Tuple elts kk tpos) (.Call (.Name "enumerate" p) [e] [] pos) (iEnumT X.K ta) := by
  refine ⟨fun pins s σ H R I h => ?_⟩
  refine Call_ (ld_blt I hg hm boot_enumerate (PyProof.Rows.callWith_type1 (thn (ha.run pos pins s σ H _ I h) fun us s1 ⟨vs, H1, I1, r1, q1⟩ => ?_) hs rfl))
  obtain ⟨a, xs, ex, hq, q⟩ := q1
  subst ex
  cases r1 with
  | cons r rr =>
    cases rr
    cases r
    obtain ⟨its, rv, p', hz⟩ := I1.tuple hq
    refine call_enumerate_tuple p' fun h' he hit hsz hk => wpAny_pyIter_enum he ?_
    have I2 : Inv X pins σ H1 { s1 with heap := h' } := I1.kept (t' := s1.toks) hk
    refine ⟨s1.heap.objs.size + 1, [s1.heap.objs.size + 1, s1.heap.objs.size], _, _, H1, rfl, I2, turn_enumT a (s1.heap.objs.size + 1) s1.heap.objs.size, ⟨⟨.none, he⟩, hit, Nat.succ_ne_self _⟩, fun b hb => ?_, q⟩
    have e' : b = s1.heap.objs.size + 1 ∨ b = s1.heap.objs.size := by simpa using hb
    have hle : s1.heap.objs.size ≤ b := by
      rcases e' with z | z
      · rw [z]; exact Nat.le_add_right _ _
      · rw [z]; exact Nat.le_refl _
    exact I1.fpOk hle (I1.hok.fresh hle)
theorem walk_enumT {K : PySem.W.Frag} {a : Addr} {xs : List V} : Walk (Itet K a) xs.length (fun H => SqT K H a xs) (fun i H v H' => ∃ T x, v = .ref T ∧ H T = none ∧ H' = L2.upd H T (.tup [.int (i : Nat), x]) ∧ xs[i]? = some x) :=
  ⟨fun i H hi h => ⟨xs, _, h, List.getElem?_eq_getElem hi⟩, fun H h => ⟨xs, h, Nat.le_refl _⟩, fun i H v H' hi h y => by obtain ⟨T, x, h1, h2, h3, h4⟩ := y; exact ⟨T, x, h1, h2, h3, h4 xs h⟩⟩
/-- a list or a tuple -/
def Sq (K : PySem.W.Frag) (H : Hp) (a : Addr) (xs : List V) : Prop := SqL K H a xs ∨ SqT K H a xs
def GSq (K : PySem.W.Frag) (H1 : Hp) (a : Addr) (xs : List V) (H : Hp) : Prop := (SqL K H1 a xs → SqL K H a xs) ∧ (SqT K H1 a xs → SqT K H a xs)
theorem GSq.kl {K : PySem.W.Frag} {H1 H : Hp} {a : Addr} {xs : List V} (k : Kl H1 H) : GSq K H1 a xs H := ⟨fun h => k.seq h, fun h => k.seqT h⟩
theorem GSq.same {K : PySem.W.Frag} {H1 H : Hp} {a : Addr} {xs : List V} (s : Same H1 H) : GSq K H1 a xs H := .kl (.same s)
theorem Sq.kl {K : PySem.W.Frag} {H1 H : Hp} {a : Addr} {xs : List V} (h : Sq K H1 a xs) (k : Kl H1 H) : Sq K H a xs := h.imp (fun h => k.seq h) (fun h => k.seqT h)
theorem Sq.same {K : PySem.W.Frag} {H1 H : Hp} {a : Addr} {xs : List V} (h : Sq K H1 a xs) (s : Same H1 H) : Sq K H a xs := h.kl (.same s)
theorem Sq.len {K : PySem.W.Frag} {H : Hp} {a : Addr} {xs : List V} (h : Sq K H a xs) : LenV K (.ref a) H xs.length := h.elim (fun h => Or.inl ⟨_, h, rfl⟩) (fun h => Or.inr ⟨_, h, rfl⟩)
def iSeq (K : PySem.W.Frag) (tl : TE) : TI := fun σ H R => tl σ H fun x H1 => ∃ a xs, x = .ref a ∧ Sq K H1 a xs ∧ ∀ J, Walk J xs.length (GSq K H1 a xs) (YAt xs) → R J H1
theorem pi_seq {X : Cx} {K : PySem.W.Frag} {tg l : Expr} {tl : TE} (hK : X.K = K) (hl : PE X l tl) : PI X tg l (iSeq K tl) := by
  subst hK
  refine ⟨fun pins s σ H R I h => ?_⟩
  refine thn (hl.run pins s σ H _ I h) fun v s1 ⟨x, H1, I1, r1, q1⟩ => ?_
  obtain ⟨a, xs, e, hq, q⟩ := q1
  subst e
  cases r1
  rcases hq with hq | hq
  · obtain ⟨its, rv, p, hz⟩ := I1.list hq
    refine wpAny_pyIter_list p.isList ?_
    refine ⟨s1.heap.objs.size, [s1.heap.objs.size], _, _, H1, rfl, I1.kept (t' := s1.toks) fun b o e => Heap.get?_push_of_some _ e, turn_list a _, ⟨_, Heap.get?_push_size _ rfl, rfl, rfl⟩, fun b hb => ?_, q _ (walk_list.mono (fun H g => g.1 hq) fun _ _ _ _ _ _ y => y)⟩
    have e : b = s1.heap.objs.size := by simpa using hb
    subst e
    exact I1.fpOk (Nat.le_refl _) (I1.hok.fresh (Nat.le_refl _))
  · obtain ⟨its, rv, p, hz⟩ := I1.tuple hq
    refine wpAny_pyIter_tuple (show s1.heap.IsTuple a its.toArray from p) ?_
    refine ⟨s1.heap.objs.size, [s1.heap.objs.size], _, _, H1, rfl, I1.kept (t' := s1.toks) fun b o e => Heap.get?_push_of_some _ e, turn_tuple a _, ⟨_, Heap.get?_push_size _ rfl, rfl, rfl⟩, fun b hb => ?_, q _ (walk_tup.mono (fun H g => g.2 hq) fun _ _ _ _ _ _ y => y)⟩
    have e : b = s1.heap.objs.size := by simpa using hb
    subst e
    exact I1.fpOk (Nat.le_refl _) (I1.hok.fresh (Nat.le_refl _))
def iEnumX (K : PySem.W.Frag) (ta : TA) : TI := fun σ H R => ta σ H fun vs H1 => ∃ a xs, vs = [.ref a] ∧ Sq K H1 a xs ∧ ∀ J, Walk J xs.length (GSq K H1 a xs) (fun i H v H' => ∃ T x, v = .ref T ∧ H T = none ∧ H' = L2.upd H T (.tup [.int (i : Nat), x]) ∧ xs[i]? = some x) → R J H1
theorem pi_enumX {X : Cx} {e : Expr} {ta : TA} {p pos tpos : Pos} {elts : List Expr} {kk : Nat} (hg : Gl X "enumerate") (hm : X.mg "enumerate" = none) (ha : PA X [e] ta) (hs : starEach [e] X.env = [(false, eval e X.env)] := by rfl) :
    PI X (.Tuple elts kk tpos) (.Call (.Name "enumerate" p) [e] [] pos) (iEnumX X.K ta) := by
  refine ⟨fun pins s σ H R I h => ?_⟩
  refine Call_ (ld_blt I hg hm boot_enumerate (PyProof.Rows.callWith_type1 (thn (ha.run pos pins s σ H _ I h) fun us s1 ⟨vs, H1, I1, r1, q1⟩ => ?_) hs rfl))
  obtain ⟨a, xs, ex, hq, q⟩ := q1
  subst ex
  cases r1 with
  | cons r rr =>
    cases rr
    cases r
    rcases hq with hq | hq
    · obtain ⟨its, rv, p', hz⟩ := I1.list hq
      refine call_enumerate_list p'.isList fun h' he hit hsz hk => wpAny_pyIter_enum he ?_
      have I2 : Inv X pins σ H1 { s1 with heap := h' } := I1.kept (t' := s1.toks) hk
      refine ⟨s1.heap.objs.size + 1, [s1.heap.objs.size + 1, s1.heap.objs.size], _, _, H1, rfl, I2, turn_enum a (s1.heap.objs.size + 1) s1.heap.objs.size, ⟨⟨.none, he⟩, hit, Nat.succ_ne_self _⟩, fun b hb => ?_, q _ (walk_enum.mono (fun H g => g.1 hq) fun i H v H' _ _ y => ?_)⟩
      · have e' : b = s1.heap.objs.size + 1 ∨ b = s1.heap.objs.size := by simpa using hb
        have hle : s1.heap.objs.size ≤ b := by
          rcases e' with z | z
          · rw [z]; exact Nat.le_add_right _ _
          · rw [z]; exact Nat.le_refl _
        exact I1.fpOk hle (I1.hok.fresh hle)
      · obtain ⟨T, x, y', h1, h2, h3, h4, h5⟩ := y
        obtain rfl : V.int i = x := Option.some.inj h4
        exact ⟨T, y', h1, h2, h3, h5⟩
    · obtain ⟨its, rv, p', hz⟩ := I1.tuple hq
      refine call_enumerate_tuple p' fun h' he hit hsz hk => wpAny_pyIter_enum he ?_
      have I2 : Inv X pins σ H1 { s1 with heap := h' } := I1.kept (t' := s1.toks) hk
      refine ⟨s1.heap.objs.size + 1, [s1.heap.objs.size + 1, s1.heap.objs.size], _, _, H1, rfl, I2, turn_enumT a (s1.heap.objs.size + 1) s1.heap.objs.size, ⟨⟨.none, he⟩, hit, Nat.succ_ne_self _⟩, fun b hb => ?_, q _ (walk_enumT.mono (fun H g => g.2 hq) fun i H v H' _ _ y => y)⟩
      have e' : b = s1.heap.objs.size + 1 ∨ b = s1.heap.objs.size := by simpa using hb
      have hle : s1.heap.objs.size ≤ b := by
        rcases e' with z | z
        · rw [z]; exact Nat.le_add_right _ _
        · rw [z]; exact Nat.le_refl _
      exact I1.fpOk hle (I1.hok.fresh hle)
/-- rows of states, as lists or as tuples -/
def Rws (K : PySem.W.Frag) (H : Hp) (R : V) (rs : List Row) : Prop := Dp K H R (rowsD rs) ∨ Dp K H R (rowsT rs)
def Ens (K : PySem.W.Frag) (H : Hp) (E : V) (es : List Int) : Prop := Dp K H E (intsD es) ∨ Dp K H E (intsT es)
theorem Rws.mv {K : PySem.W.Frag} {H H' : Hp} {R : V} {rs : List Row} (h : Rws K H R rs) (k : Kl H H') : Rws K H' R rs := h.imp (fun h => h.mv k) (fun h => h.mv k)
theorem Ens.mv {K : PySem.W.Frag} {H H' : Hp} {R : V} {rs : List Int} (h : Ens K H R rs) (k : Kl H H') : Ens K H' R rs := h.imp (fun h => h.mv k) (fun h => h.mv k)
theorem Ens.at {K : PySem.W.Frag} {H : Hp} {E : V} {es : List Int} (h : Ens K H E es) : ∃ e, E = .ref e ∧ Sq K H e (es.map V.int) := by
  rcases h with h | h
  · obtain ⟨e, ys, rfl, h1, h2⟩ := h.listE
    obtain rfl := dpAll_intsE h2
    exact ⟨e, rfl, Or.inl h1⟩
  · obtain ⟨e, ys, rfl, h1, h2⟩ := h.tupE
    obtain rfl := dpAll_intsE h2
    exact ⟨e, rfl, Or.inr h1⟩
theorem Rws.at {K : PySem.W.Frag} {H : Hp} {R : V} {rs : List Row} (h : Rws K H R rs) : ∃ r xs, R = .ref r ∧ Sq K H r xs ∧ xs.length = rs.length ∧
    ∀ (i : Nat) (hi : i < rs.length) (x : V), xs[i]? = some x → ∃ w ts, x = .ref w ∧ Sq K H w ts ∧ DpAll K H ts (rs[i].map tupD) := by
  rcases h with h | h
  · obtain ⟨r, xs, rfl, h1, h2⟩ := h.listE
    refine ⟨r, xs, rfl, Or.inl h1, by rw [h2.length, List.length_map], fun i hi x hx => ?_⟩
    obtain ⟨v, hv, hrow⟩ := h2.get (i := i) (d := rowD rs[i]) (by rw [List.getElem?_map, List.getElem?_eq_getElem hi]; rfl)
    obtain rfl : x = v := Option.some.inj (hx.symm.trans hv)
    obtain ⟨w, ts, rfl, hw1, hw2⟩ := hrow.listE
    exact ⟨w, ts, rfl, Or.inl hw1, hw2⟩
  · obtain ⟨r, xs, rfl, h1, h2⟩ := h.tupE
    refine ⟨r, xs, rfl, Or.inr h1, by rw [h2.length, List.length_map], fun i hi x hx => ?_⟩
    obtain ⟨v, hv, hrow⟩ := h2.get (i := i) (d := rowT rs[i]) (by rw [List.getElem?_map, List.getElem?_eq_getElem hi]; rfl)
    obtain rfl : x = v := Option.some.inj (hx.symm.trans hv)
    obtain ⟨w, ts, rfl, hw1, hw2⟩ := hrow.tupE
    exact ⟨w, ts, rfl, Or.inr hw1, hw2⟩
theorem tup_at {K : PySem.W.Frag} {H : Hp} {ts : List V} {r : Row} (h : DpAll K H ts (r.map tupD)) {j : Nat} {x : V} (hx : ts[j]? = some x) : ∃ (t : Addr) (hj : j < r.length), x = .ref t ∧ SqT K H t [.int (r[j]).1, .int (r[j]).2] := by
  obtain ⟨hj, _⟩ := List.getElem?_eq_some_iff.mp hx
  have hj' : j < r.length := by have := h.length; rw [List.length_map] at this; omega
  obtain ⟨v, hv, hb⟩ := h.get (i := j) (d := tupD r[j]) (by rw [List.getElem?_map, List.getElem?_eq_getElem hj']; rfl)
  obtain rfl : x = v := Option.some.inj (hx.symm.trans hv)
  obtain ⟨t, us, rfl, ht1, ht2⟩ := hb.tupE
  cases ht2 with
  | cons hA hB =>
    obtain rfl := hA.intE
    cases hB with
    | cons hB hC =>
      obtain rfl := hB.intE
      cases hC
      exact ⟨t, hj', rfl, ht1⟩
end Vf
set_option Elab.async false
set_option linter.all false
set_option maxRecDepth 100000
set_option maxHeartbeats 4000000
/-! own errors: made by an own __init__ over a plain own base; methods that may raise -/
namespace Vf
open PySem L2 PyProof.Rows PySem.Calls
def tMethV (C : Addr) (m : Str) (sp : Sp) (E : L2.St → XK) (ta : TE) (t : TA) : TE := fun σ H Q => ta σ H fun x H1 => ∃ a dx fs, x = .ref a ∧ H1 a = some (.ins C dx fs) ∧ fs.lookup m = none ∧ t σ H1 fun vs H2 => sp (x :: vs) H2 Q (E σ)
section
variable {X : Cx} {CX : CXT} {k : Nat} {f C : Addr} {fd : FuncData} {ps : List Str} {sp : Sp} {E : L2.St → XK} {x m : Str} {p pos apos : Pos} {e o : Expr} {es : List Expr} {ta : TE} {t : TA}
theorem pe_methV {pl : Sem Bool} (he : PE X o ta) (c : Cls X.K C) (hm : Meth X.K C m f) (F : FnOk X.prog X.w X.K X.mg X.base CX k f fd ps sp) (hr : Room k X.A) (hb : L2.Binds X.K fd ps []) (hx : ∀ σ, PassesAt CX X σ (E σ)) (ha : PA X (e :: es) t)
    (hst : starEach (e :: es) X.env = (false, eval e X.env) :: starEach es X.env := by rfl) (hpl : (backTo pos (starEach es X.env)).any (·.1) = false := by rfl)
    (ht : eval (.Call (.Attribute o m apos) (e :: es) [] pos) X.env = (do
      let ov ← eval o X.env
      standAt apos.atName
      let (f, first) ← holding [ov] (getMethod ov m pl)
      callWith pos f first (backTo pos (starEach (e :: es) X.env)) (backToKw pos (keywordEach [] X.env))) := by rfl) :
    PE X (.Call (.Attribute o m apos) (e :: es) [] pos) (tMethV C m sp E ta t) := by
  refine ⟨fun pins s σ H Q I h => ?_⟩
  refine PySem.W.methodCall_KW (pl := pl) (thn (he.run pins s σ H _ I h) fun u s1 ⟨x, H1, I1, rx, a, dx, fs, ex, ea, l, q⟩ => ?_) ht
  subst ex
  obtain rfl : u = Value.ref a := rx
  refine getmeth_ok I1 ea c hm l ?_
  refine PySem.W.callWith_K (first := [.ref a]) (h₀ := X.base) I.ok.mod.kin hm.kp (thn (ha.run pos pins s1 σ H1 _ I1 q) fun us s2 ⟨vs, H2, I2, r, q2⟩ => ⟨I2.kIn, ?_⟩) hst hpl
  exact run_fnS (us := .ref a :: us) (vs := .ref a :: vs) F hr hb (hx σ) I2 (.cons rfl r) q2
end
/-- what the top says of the plain base at B, asked for __init__ -/
structure BaseT (K : PySem.W.Frag) (mg : Str → Option Value) (x : Str) (B : Addr) : Prop where
  g : mg x = some (.ref B)
  s : PySem.W.specialIn K (.ref B) "__getattribute__" = some (some (.builtin "type.__getattribute__"))
  r : PySem.W.readsIn K B (.type "type") = true
  v : PySem.W.findCls K (.ref B) (.type "type") "__init__" = some (.val (.builtin "ValueError.__init__"))
section
variable {X : Cx} {e : Expr} {es : List Expr} {ta : TA} {x : Str} {p1 p2 pos : Pos} {B : Addr}
theorem pe_clsinit {pl : Sem Bool} (T : BaseT X.K X.mg x B) (hg : Gl X x) (ha : PA X (e :: es) ta) (hdb : (x == ("__debug__" : Str)) = false := by decide)
    (hc : eval (.Call (.Attribute (.Name x p1) "__init__" p2) (e :: es) [] pos) X.env = (do
      let ov ← eval (.Name x p1) X.env
      standAt p2.atName
      let (f, first) ← holding [ov] (getMethod ov "__init__" pl)
      callWith pos f first (backTo pos (starEach (e :: es) X.env)) (backToKw pos (keywordEach [] X.env))) := by rfl)
    (he : starEach (e :: es) X.env = (false, eval e X.env) :: starEach es X.env := by rfl) (hpl : (backTo pos (starEach es X.env)).any (·.1) = false := by rfl) :
    PE X (.Call (.Attribute (.Name x p1) "__init__" p2) (e :: es) [] pos) (tVeI X.K ta) := by
  refine ⟨fun pins s σ H Q I h => ?_⟩
  refine PySem.W.methodCall_KW (ld_glob I hg T.g ?_ hdb) hc
  refine PySem.W.method_cls I.kIn T.s (PySem.W.cls_value (mc := .type "type") I.kIn T.r T.v (by decide +kernel) ?_)
  show wpAny _ _ (callWith pos (Value.builtin "ValueError.__init__") [] (backTo pos (starEach (e :: es) X.env)) []) _ _ _
  refine PyProof.Rows.callWith_method1 (thn (ha.run pos pins _ σ H _ (I.tok _) h) fun us s1 ⟨vs, H1, I1, r1, a, C, ws, ev, hl, T, ea, q⟩ => ?_) he hpl
  subst ev
  cases r1 with
  | @cons _ u0 _ ur ra rw' =>
    obtain rfl : u0 = Value.ref a := ra
    have hlen : ur.length ≤ sizeLine := by
      rw [← Paired.length rw', sizeLine_eq]
      omega
    exact oinit_ok T I1 ea hlen fun s' J => ⟨.non, H1, J, rfl, q⟩
end
/-- what the top says of an own error at C over the base, with the __init__ at fI that keeps one field -/
structure ErrT (K : PySem.W.Frag) (mg : Str → Option Value) (x f : Str) (C fI : Addr) : Prop where
  oex : OexC K C
  g : mg x = some (.ref C)
  iC : PySem.W.findIn K (.ref C) "__init__" = some (some (.ref fI))
  tI : PySem.W.typeIn K (.ref fI) = some (.type "function")
  nf : PySem.W.findIn K (.ref C) f = some none
  xf : XfC K C
/-- the promise of such an __init__ -/
def spErr (C : Addr) (f : Str) : Sp := fun vs H Q _ => ∃ (a : Addr) (v : V), vs = [.ref a, v] ∧ H a = some (exo a C none) ∧ ∀ d, H d = none → d ≠ a → Q .non (L2.upd (L2.upd H d (exd d [(f, v)])) a (exo a C (some d)))
/-- what raise X(v) leaves -/
def Raised (H H' : Hp) (d : Addr) (f : Str) (v : V) : Prop := H d = none ∧ H' d = some (.xd [(f, v)]) ∧ Same H H'
theorem raised_of {H : Hp} {a d C : Addr} {f : Str} {v : V} (ha : H a = none) (hd : H d = none) (hda : d ≠ a) :
    Raised H (L2.upd (L2.del (L2.upd (L2.upd (L2.upd H a (exo a C none)) d (exd d [(f, v)])) a (exo a C (some d))) a) d (.xd [(f, v)])) d f v := by
  refine ⟨hd, upd_same, fun b o e => ?_⟩
  have h1 : b ≠ a := ne_of_none e ha
  have h2 : b ≠ d := ne_of_none e hd
  rw [upd_ne h2, del_ne h1, upd_ne h1, upd_ne h2, upd_ne h1]
  exact e
theorem idx_lt' {z : List Nat} {c : Nat} (h : c ∈ z) : z.idxOf c < z.length := List.idxOf_lt_length_iff.mpr h
theorem at_sg {z : Str} {c i : Nat} : StrLaws.At z (sg c) z.length i ↔ (TL.tl z)[i]? = some c := by
  rw [TL.at_iff (by rw [sg_tl]; simp) i, sg_tl]
  rw [← List.head?_drop]
  cases h : (TL.tl z).drop i with
  | nil => exact ⟨fun h => absurd h (by show ¬ (([] : List Nat) == [c]) = true; exact Bool.false_ne_true), fun h => absurd h (by simp)⟩
  | cons a r =>
    constructor
    · intro h
      have h2 : [a] = [c] := eq_of_beq h
      exact congrArg some (List.cons.inj h2).1
    · intro h
      have h2 : a = c := Option.some.inj h
      subst h2
      exact beq_self_eq_true [a]
theorem occ_sg {z : Str} {c : Nat} (h : c ∈ TL.tl z) : ∃ r, Builtin.Str.occurrences z (sg c) 0 z.length 1 = (TL.tl z).idxOf c :: r := by
  have hlt := idx_lt' h
  have hget : (TL.tl z)[(TL.tl z).idxOf c]? = some c := by
    rw [List.getElem?_eq_getElem hlt]
    simp
  rcases StrLaws.occ_head z (sg c) 1 (Nat.le_refl 1) with ⟨h0, hn⟩ | ⟨i, r, h0, hi, hn⟩
  · exact absurd (at_sg.mpr hget) (hn _)
  · rw [at_sg] at hi
    have e : i = (TL.tl z).idxOf c := by
      rcases Nat.lt_trichotomy i ((TL.tl z).idxOf c) with q | q | q
      · exfalso
        have := List.not_of_lt_findIdx (p := (· == c)) (xs := TL.tl z) q
        obtain ⟨hl, he⟩ := List.getElem?_eq_some_iff.mp hi
        simp [he] at this
      · exact q
      · exact absurd (at_sg.mpr hget) (hn _ q)
    exact ⟨r, by rw [h0, e]⟩
theorem find_sg {z : Str} {c : Nat} (h : c ∈ TL.tl z) : Txt.find z (sg c) = ((TL.tl z).idxOf c : Int) := by
  obtain ⟨r, e⟩ := occ_sg h
  unfold Txt.find
  rw [e]
end Vf
set_option Elab.async false
set_option linter.all false
set_option maxRecDepth 100000
set_option maxHeartbeats 4000000
/-! functions as values: made in one def, handed to another, called there -/
namespace Vf
open PySem L2 PyProof.Rows NdefX LamX
/-- the cell at c, told to the last bit -/
def CellX (c : Addr) (o : Obj) : HO := .ext fun h => h.get? c = some o
abbrev Cs := List (Addr × Obj)
def hid (cs : Cs) (H : Hp) : Hp := fun b => if (cs.lookup b).isSome then none else H b
def shw (cs : Cs) (H : Hp) : Hp := fun b => match cs.lookup b with | some o => some (CellX b o) | none => H b
def HeldC (cs : Cs) (H : Hp) : Prop := ∀ c o, cs.lookup c = some o → H c = some (CellX c o)
section
variable {cs : Cs} {H H' : Hp} {b c : Addr} {o : Obj} {u : HO}
theorem hid_in (h : cs.lookup c = some o) : hid cs H c = none := by unfold hid; rw [h]; rfl
theorem hid_out (h : cs.lookup c = none) : hid cs H c = H c := by unfold hid; rw [h]; rfl
theorem shw_in (h : cs.lookup c = some o) : shw cs H c = some (CellX c o) := by unfold shw; rw [h]
theorem shw_out (h : cs.lookup c = none) : shw cs H c = H c := by unfold shw; rw [h]
theorem hid_some (e : hid cs H b = some u) : cs.lookup b = none ∧ H b = some u := by
  cases q : cs.lookup b with
  | some x => rw [hid_in q] at e; cases e
  | none => rw [hid_out q] at e; exact ⟨rfl, e⟩
theorem HeldC.out (hc : HeldC cs H) (e : H b = some u) (n : ∀ x, u ≠ CellX b x) : cs.lookup b = none := by
  cases q : cs.lookup b with
  | some x => rw [hc b x q] at e; exact absurd (Option.some.inj e).symm (n x)
  | none => rfl
theorem HeldC.out0 (hc : HeldC cs H) (e : H b = none) : cs.lookup b = none := by
  cases q : cs.lookup b with
  | some x => rw [hc b x q] at e; cases e
  | none => rfl
theorem held_shw : HeldC cs (shw cs H) := fun _ _ e => shw_in e
end
section
variable {P : Program} {w : World} {cs : Cs} {H H' : Hp} {h h' B : Heap} {fs : List Addr}
theorem hok_hid (ok : HOk P w H h) (hc : HeldC cs H) : HOk P w (hid cs H) h := fun b u e => by
  obtain ⟨q, e1⟩ := hid_some e
  refine (ok b u e1).stay (fun _ _ _ z => z) (fun x z => ?_) fun x xs z => ?_
  · rw [hid_out (hc.out z fun y hy => by cases hy)]; exact z
  · rw [hid_out (hc.out z fun y hy => by cases hy)]; exact z
theorem hok_shw (ok : HOk P w H h) (hn : ∀ c o, cs.lookup c = some o → H c = none ∧ h.get? c = some o) : HOk P w (shw cs H) h := fun b u e => by
  have out : ∀ x v, H x = some v → shw cs H x = some v := fun x v z => by
    cases q : cs.lookup x with
    | some y => rw [(hn x y q).1] at z; cases z
    | none => rw [shw_out q]; exact z
  cases q : cs.lookup b with
  | some y =>
    rw [shw_in q] at e
    cases e
    have hb := (hn b y q).2
    exact ⟨hb, ⟨_, hb⟩, fun h1 h2 a st => st _ a⟩
  | none =>
    rw [shw_out q] at e
    exact (ok b u e).stay (fun _ _ _ z => z) (fun x z => out _ _ z) fun x xs z => out _ _ z
theorem cell_at (ok : HOk P w H h) (hc : HeldC cs H) {c : Addr} {o : Obj} (e : cs.lookup c = some o) : h.get? c = some o := (ok c _ (hc c o e)).1
/-- behind a call made with the cells hidden -/
theorem un_shw (ok : HOk P w H h) (hc : HeldC cs H) (hf : ∀ c o, cs.lookup c = some o → c ∉ fs) (u : Un fs [] (hid cs H) H' h h') (ok' : HOk P w H' h') :
    Un fs [] H (shw cs H') h h' ∧ HOk P w (shw cs H') h' ∧ ∀ c o, cs.lookup c = some o → H' c = none := by
  have cell : ∀ c o, cs.lookup c = some o → H' c = none ∧ h'.get? c = some o := fun c o e =>
    ⟨u.free c o (cell_at ok hc e) (hid_in e) (by simp), u.keep c o (cell_at ok hc e) (hid_in e) (hf c o e) (by simp)⟩
  refine ⟨⟨fun b o e n hb hx => ?_, fun b o e n hb hx => ?_, fun b o e n hx => ?_, u.there, fun b xs e => ?_, fun b o v e => ?_, fun b ps e => ?_⟩, hok_shw ok' cell, fun c o e => (cell c o e).1⟩
  · exact u.keep b o e (by rw [hid_out (hc.out0 n)]; exact n) hb hx
  · exact u.slot b o e (by rw [hid_out (hc.out0 n)]; exact n) hb hx
  · rw [shw_out (hc.out0 n)]
    exact u.free b o e (by rw [hid_out (hc.out0 n)]; exact n) hx
  · have q := hc.out e fun y hy => by cases hy
    rw [shw_out q]; exact u.tups b xs (by rw [hid_out q]; exact e)
  · have q := hc.out e fun y hy => by cases hy
    rw [shw_out q]; exact u.frzs b o v (by rw [hid_out q]; exact e)
  · have q := hc.out e fun y hy => by cases hy
    rw [shw_out q]; exact u.tbls b ps (by rw [hid_out q]; exact e)
theorem ub_shw (ok : HOk P w H h) (hc : HeldC cs H) (hf : ∀ c o, cs.lookup c = some o → c ∉ fs) (u : UB fs (hid cs H) H' h B h') (ok' : HOk P w H' B) :
    UB fs H (shw cs H') h B h' ∧ HOk P w (shw cs H') B ∧ ∀ c o, cs.lookup c = some o → H' c = none ∧ B.get? c = some o := by
  have cell : ∀ c o, cs.lookup c = some o → H' c = none ∧ B.get? c = some o := fun c o e =>
    ⟨u.free c o (cell_at ok hc e) (hid_in e), u.keep c o (cell_at ok hc e) (hid_in e) (hf c o e)⟩
  refine ⟨⟨fun b o e n hb => ?_, u.slot, fun b o e n => ?_, u.there, fun b xs e => ?_, fun b o v e => ?_, fun b ps e => ?_⟩, hok_shw ok' cell, cell⟩
  · exact u.keep b o e (by rw [hid_out (hc.out0 n)]; exact n) hb
  · rw [shw_out (hc.out0 n)]
    exact u.free b o e (by rw [hid_out (hc.out0 n)]; exact n)
  · have q := hc.out e fun y hy => by cases hy
    rw [shw_out q]; exact u.tups b xs (by rw [hid_out q]; exact e)
  · have q := hc.out e fun y hy => by cases hy
    rw [shw_out q]; exact u.frzs b o v (by rw [hid_out q]; exact e)
  · have q := hc.out e fun y hy => by cases hy
    rw [shw_out q]; exact u.tbls b ps (by rw [hid_out q]; exact e)
/-- behind a call made with the cells shown -/
theorem un_hid (hn : ∀ c o, cs.lookup c = some o → H c = none ∧ h.get? c = some o ∧ c ∉ fs) (u : Un fs [] (shw cs H) H' h h') (ok' : HOk P w H' h') (hc : HeldC cs H') :
    Un fs [] H (hid cs H') h h' ∧ HOk P w (hid cs H') h' := by
  have out : ∀ b v, H b = some v → cs.lookup b = none := fun b v e => by
    cases q : cs.lookup b with
    | some y => rw [(hn b y q).1] at e; cases e
    | none => rfl
  refine ⟨⟨fun b o e n hb hx => ?_, fun b o e n hb hx => ?_, fun b o e n hx => ?_, u.there, fun b xs e => ?_, fun b o v e => ?_, fun b ps e => ?_⟩, hok_hid ok' hc⟩
  · cases q : cs.lookup b with
    | some y =>
      have e1 := (hn b y q).2.1
      rw [e] at e1; cases e1
      exact cell_at ok' hc q
    | none => exact u.keep b o e (by rw [shw_out q]; exact n) hb hx
  · cases q : cs.lookup b with
    | some y => exact absurd hb (hn b y q).2.2
    | none => exact u.slot b o e (by rw [shw_out q]; exact n) hb hx
  · cases q : cs.lookup b with
    | some y => exact hid_in q
    | none =>
      rw [hid_out q]
      exact u.free b o e (by rw [shw_out q]; exact n) hx
  · have q := out _ _ e
    rw [hid_out q]; exact u.tups b xs (by rw [shw_out q]; exact e)
  · have q := out _ _ e
    rw [hid_out q]; exact u.frzs b o v (by rw [shw_out q]; exact e)
  · have q := out _ _ e
    rw [hid_out q]; exact u.tbls b ps (by rw [shw_out q]; exact e)
theorem ub_hid (hn : ∀ c o, cs.lookup c = some o → H c = none ∧ h.get? c = some o ∧ c ∉ fs) (u : UB fs (shw cs H) H' h B h') (ok' : HOk P w H' B) (hc : HeldC cs H') :
    UB fs H (hid cs H') h B h' ∧ HOk P w (hid cs H') B := by
  have out : ∀ b v, H b = some v → cs.lookup b = none := fun b v e => by
    cases q : cs.lookup b with
    | some y => rw [(hn b y q).1] at e; cases e
    | none => rfl
  refine ⟨⟨fun b o e n hb => ?_, u.slot, fun b o e n => ?_, u.there, fun b xs e => ?_, fun b o v e => ?_, fun b ps e => ?_⟩, hok_hid ok' hc⟩
  · cases q : cs.lookup b with
    | some y =>
      have e1 := (hn b y q).2.1
      rw [e] at e1; cases e1
      exact cell_at ok' hc q
    | none => exact u.keep b o e (by rw [shw_out q]; exact n) hb
  · cases q : cs.lookup b with
    | some y => exact hid_in q
    | none =>
      rw [hid_out q]
      exact u.free b o e (by rw [shw_out q]; exact n)
  · have q := out _ _ e
    rw [hid_out q]; exact u.tups b xs (by rw [shw_out q]; exact e)
  · have q := out _ _ e
    rw [hid_out q]; exact u.frzs b o v (by rw [shw_out q]; exact e)
  · have q := out _ _ e
    rw [hid_out q]; exact u.tbls b ps (by rw [shw_out q]; exact e)
end
/-! what is raised -/
structure CxOk (P : Program) (w : World) (CX : CXT) : Prop where
  shw : ∀ (outer : List Env) (cs : Cs) (H : Hp) (s : Shared) (E : XK) (u : Value) (s' : Shared), HOk P w H s.heap → HeldC cs H → (∀ c o, cs.lookup c = some o → c ∉ frs outer) →
    CX outer (hid cs H) s (fun cl d H2 => (∀ c o, cs.lookup c = some o → H2 c = none) → E cl d (Vf.shw cs H2)) u s' → CX outer H s E u s'
  hid : ∀ (outer : List Env) (cs : Cs) (H : Hp) (s : Shared) (E : XK) (u : Value) (s' : Shared), (∀ c o, cs.lookup c = some o → H c = none ∧ s.heap.get? c = some o ∧ c ∉ frs outer) →
    CX outer (Vf.shw cs H) s (fun cl d H2 => HeldC cs H2 ∧ E cl d (Vf.hid cs H2)) u s' → CX outer H s E u s'
theorem cxok0 {P : Program} {w : World} : CxOk P w CX0 := ⟨fun _ _ _ _ _ _ _ _ _ _ z => z.elim, fun _ _ _ _ _ _ _ _ z => z.elim⟩
theorem cxok {P : Program} {w : World} : CxOk P w (L2.CX P w) := by
  refine ⟨fun outer cs H s E u s' ok hc hf z => ?_, fun outer cs H s E u s' hn z => ?_⟩
  · obtain ⟨a, B, H', cls, d, e, fl, ok', ub, na, os, ag, hE⟩ := z
    obtain ⟨u1, k1, hB⟩ := ub_shw ok hc hf ub ok'
    refine ⟨a, B, _, cls, d, e, fl, k1, u1, ?_, os, ag, hE fun c o e => (hB c o e).1⟩
    cases q : cs.lookup a with
    | some y =>
      have z2 := fl.2.1
      rw [(hB a y q).2] at z2; cases z2
    | none => rw [shw_out q]; exact na
  · obtain ⟨a, B, H', cls, d, e, fl, ok', ub, na, os, ag, hc, hE⟩ := z
    obtain ⟨u1, k1⟩ := ub_hid hn ub ok' hc
    refine ⟨a, B, _, cls, d, e, fl, k1, u1, ?_, os, ag, hE⟩
    cases q : cs.lookup a with
    | some y => exact hid_in q
    | none => rw [hid_out q]; exact na
/-! a function by its address: whenever S holds of the heap, a call of it keeps the promise -/
structure FV (P : Program) (w : World) (K : PySem.W.Frag) (mg : Str → Option Value) (base : Heap) (CX : CXT) (k : Nat) (f : Addr) (S : Hp → Prop) (sp : Sp) : Prop where
  fn : ∀ H h, K.In h → HOk P w H h → S H → PySem.W.FnAt f h
  run : ∀ (A : Around) (outer : List Env) (s : Shared) (H : Hp) (us : List Value) (vs : List V) (Q : VK) (E : XK), Room k A → Env0 P w K mg base A outer s H → S H → Vals vs us → sp vs H Q E →
    codeAny (model P w) A (.call (.ref f) ⟨us, []⟩) (CR CX outer P w H s Q E) s
section
variable {P : Program} {w : World} {K : PySem.W.Frag} {mg : Str → Option Value} {base : Heap} {CX : CXT} {k j : Nat} {f : Addr} {S S' : Hp → Prop} {sp sp' : Sp}
theorem FV.mono (F : FV P w K mg base CX j f S sp) (h : j ≤ k) : FV P w K mg base CX k f S sp := ⟨F.fn, fun A outer s H us vs Q E hr => F.run A outer s H us vs Q E (hr.mono h)⟩
theorem FV.imp (F : FV P w K mg base CX k f S sp) (hS : ∀ H, S' H → S H) (h : ∀ vs H Q E, S' H → sp' vs H Q E → sp vs H Q E) : FV P w K mg base CX k f S' sp' :=
  ⟨fun H h ki ok q => F.fn H h ki ok (hS H q), fun A outer s H us vs Q E hr e q r z => F.run A outer s H us vs Q E hr e (hS H q) r (h vs H Q E q z)⟩
/-- a def of the module's top as a value -/
theorem fv_of_fun {x qual : Str} {stt : Stmt} {fd : FuncData} {ps : List Str} (Fu : Fun K x qual stt f fd) (F : FnOk P w K mg base CX k f fd ps sp) (hb : Binds K fd ps []) : FV P w K mg base CX k f (fun _ => True) sp :=
  ⟨fun H h ki ok q => by
    obtain ⟨oc, od, kV, doc, pm, an, cdv, ct, osl, rfl, lk, hcd⟩ := Fu.ex
    exact ⟨_, _, _, _, ki _ _ lk⟩, fun A outer s H us vs Q E hr e q r z => by
    have l : us.length = ps.length := by rw [← r.length]; exact F.len _ _ _ _ z
    have b := hb s us (e.mod.kin.keeps fun b o eb => (e.bs b o eb).1) (by rw [List.append_nil]; exact l)
    rw [List.append_nil] at b
    exact F.run A outer s H _ us vs Q E hr e b r z⟩
end
/-- the captured cells: cs tells them -/
structure Cap (cl : List (Str × Addr)) (fr : List Str) (ws : List (Option V)) (cs : Cs) : Prop where
  len : ws.length = fr.length
  cell : ∀ c o, cs.lookup c = some o → ∃ v, o.data = .cell v
  all : ∀ y c, cl.lookup y = some c → ∃ o, cs.lookup c = some o
  inj : ∀ x y c, cl.lookup x = some c → cl.lookup y = some c → x = y
  has : ∀ (i : Nat) (y : Str), fr[i]? = some y → ∃ c, cl.lookup y = some c ∧ ∀ v, ws[i]? = some (some v) → ∃ u o, RelV v u ∧ cs.lookup c = some o ∧ o.data = .cell (some u)
/-- the function and its cells stand -/
structure HeldF (f : Addr) (F : NF) (cs : Cs) (H : Hp) : Prop where
  fn : H f = some (FnO f F)
  code : H F.c = some (CodeO F.c F.qual)
  cells : HeldC cs H
def spHid (cs : Cs) (sp : Sp) : Sp := fun vs H Q E => sp vs (hid cs H) (fun v H2 => (∀ c o, cs.lookup c = some o → H2 c = none) → Q v (shw cs H2)) (fun cl d H2 => (∀ c o, cs.lookup c = some o → H2 c = none) → E cl d (shw cs H2))
section
variable {P : Program} {w : World} {K : PySem.W.Frag} {mg : Str → Option Value} {base : Heap} {CX : CXT} {k : Nat} {f : Addr} {F : NF} {ps fr : List Str} {ws : List (Option V)} {cs : Cs} {sp : List (Option V) → Sp}
theorem fv_of_nok (hX : CxOk P w CX) (o : NOk P w K mg base CX k f F ps fr sp) (c : Cap F.cl fr ws cs) : FV P w K mg base CX k f (HeldF f F cs) (spHid cs (sp ws)) := by
  refine ⟨fun H h ki ok q => ?_, fun A outer s H us vs Q E hr e q r z => ?_⟩
  · obtain ⟨od, sl, doc, pm, ctv, ho⟩ := fnO_at ok q.fn
    exact ⟨_, od, _, sl, ho⟩
  · have nfs : ∀ c o, cs.lookup c = some o → c ∉ frs outer := fun c o e1 hm => by
      have := e.frf c hm
      rw [q.cells c o e1] at this; cases this
    have okh := hok_hid e.hok q.cells
    have e2 : Env0 P w K mg base A outer s (hid cs H) := ⟨e.frames, e.mod, fun b o eb => ⟨(e.bs b o eb).1, by
        cases q2 : cs.lookup b with
        | some y => exact hid_in q2
        | none => rw [hid_out q2]; exact (e.bs b o eb).2⟩, e.bsz, e.funs, fun b hb => by
        cases q2 : cs.lookup b with
        | some y => exact hid_in q2
        | none => rw [hid_out q2]; exact e.frf b hb, okh, e.bare⟩
    have of : cs.lookup f = none := by
      cases q2 : cs.lookup f with
      | none => rfl
      | some y =>
        obtain ⟨od, sl, doc, pm, ctv, ho⟩ := fnO_at e.hok q.fn
        have h1 := cell_at e.hok q.cells q2
        obtain ⟨v, hv⟩ := c.cell f y q2
        rw [ho] at h1; cases h1; cases hv
    have oc : cs.lookup F.c = none := by
      cases q2 : cs.lookup F.c with
      | none => rfl
      | some y =>
        obtain ⟨⟨o1, v1, t1, h1, h2, h3⟩, _, _⟩ := e.hok _ _ q.code
        have h4 := cell_at e.hok q.cells q2
        obtain ⟨v, hv⟩ := c.cell _ y q2
        rw [h1] at h4; cases h4
        rw [h2] at hv; cases hv
    have C : CellsAt F.cl fr ws s.heap (hid cs H) := ⟨c.len, fun y a ea => by
        obtain ⟨o, ho⟩ := c.all y a ea
        obtain ⟨v, hv⟩ := c.cell a o ho
        exact ⟨hid_in ho, v, o, cell_at e.hok q.cells ho, hv⟩, c.inj, fun i y ey => by
        obtain ⟨a, ha, hv⟩ := c.has i y ey
        exact ⟨a, ha, fun v ev => by
          obtain ⟨u, o, h1, h2, h3⟩ := hv v ev
          exact ⟨u, h1, o, cell_at e.hok q.cells h2, h3⟩⟩⟩
    refine codeAny_mono (o.run A outer s (hid cs H) us vs ws _ _ hr e2 (by rw [hid_out of]; exact q.fn) (by rw [hid_out oc]; exact q.code) C r z) fun rr s' hq => ?_
    cases rr with
    | error er => exact hX.shw outer cs H s E er s' e.hok q.cells nfs hq
    | ok fl =>
      cases fl with
      | next => exact hq
      | brk => exact hq
      | cont => exact hq
      | ret u =>
        obtain ⟨v, H', os, bare, un, ok', rv, q2⟩ := hq
        obtain ⟨u1, k1, k2⟩ := un_shw e.hok q.cells nfs un ok'
        exact ⟨v, _, os, bare, u1, k1, rv, q2 k2⟩
end
/-! calls of a name that holds a function -/
def tCallV (i : Nat) (f : Addr) (S : Hp → Prop) (sp : Sp) (E : XK) (t : TA) : TE := fun σ H Q => σ[i]? = some (some (.ref f)) ∧ S H ∧ t σ H fun vs H1 => S H1 ∧ sp vs H1 Q E
section
variable {X : Cx} {CX : CXT} {i k : Nat} {f : Addr} {S : Hp → Prop} {sp : Sp} {E : XK} {x : Str} {p pos : Pos} {e : Expr} {es : List Expr} {t : TA}
theorem run_v {pins : List (Addr × Obj)} {σ : L2.St} {H : Hp} {s : Shared} {Q : VK} {us : List Value} {vs : List V} (F : FV X.prog X.w X.K X.mg X.base CX k f S sp) (hr : Room k X.A) (hx : Passes CX X E) (I : Inv X pins σ H s) (hS : S H) (r : Vals vs us) (q : sp vs H Q E) :
    wpAny (model X.prog X.w) X.A (call (.ref f) us) (EP X pins σ Q) X.xe s := by
  refine wpAny_call (codeAny_mono (F.run X.A X.stack s H us vs Q E hr I.env0 hS r q) fun rr s' hq => ?_)
  rcases rr with er | fl
  · exact hx pins σ H s er s' I hq
  · cases fl with
    | ret u => exact I.after hq
    | next => exact hq.elim
    | brk => exact hq.elim
    | cont => exact hq.elim
theorem pe_callV (F : FV X.prog X.w X.K X.mg X.base CX k f S sp) (hr : Room k X.A) (hx : Passes CX X E) (hN : X.N[i]? = some x) (hv : Vis X.env.scope x) (ha : PA X (e :: es) t)
    (hd : (x == ("__debug__" : Str)) = false := by decide) (hcd : (x == ("__classdict__" : Str)) = false := by decide)
    (he : starEach (e :: es) X.env = (false, eval e X.env) :: starEach es X.env := by rfl) (hpl : (backTo pos (starEach es X.env)).any (·.1) = false := by rfl) :
    PE X (.Call (.Name x p) (e :: es) [] pos) (tCallV i f S sp E t) := by
  refine ⟨fun pins s σ H Q I h => ?_⟩
  obtain ⟨hs, hS, ht⟩ := h
  refine wpAny_Call_Name_kw (thn ((pe_var (pos := p) hN hv hd hcd).run pins s σ H (fun v H1 => v = .ref f ∧ H1 = H) I ⟨.ref f, hs, rfl, rfl⟩) fun u s1 ⟨v, H1, I1, r1, q1⟩ => ?_)
  obtain ⟨ev, eH⟩ := q1
  subst ev
  rw [eH] at I1
  have r1' : u = Value.ref f := r1
  subst r1'
  refine PySem.W.callWith_F (first := []) (F.fn H s1.heap I1.kIn I1.hok hS) (thn (ha.run pos pins s1 σ H _ I1 ht) fun us s2 ⟨vs, H2, I2, r, h1, q⟩ => ⟨F.fn H2 s2.heap I2.kIn I2.hok h1, ?_⟩) he hpl
  exact run_v F hr hx I2 h1 r q
/-- the name in the slot i -/
theorem pcv (i : Nat) (F : FV X.prog X.w X.K X.mg X.base CX k f S sp) (hr : Room k X.A) (hx : Passes CX X E) (ha : PA X (e :: es) t) (hN : X.N[i]? = some x := by rfl) (hv : Vis X.env.scope x := by first | exact Or.inl rfl | exact Or.inr (Or.inl rfl) | exact Or.inr (Or.inr rfl))
    (hd : (x == ("__debug__" : Str)) = false := by decide) (hcd : (x == ("__classdict__" : Str)) = false := by decide)
    (he : starEach (e :: es) X.env = (false, eval e X.env) :: starEach es X.env := by rfl) (hpl : (backTo pos (starEach es X.env)).any (·.1) = false := by rfl) :
    PE X (.Call (.Name x p) (e :: es) [] pos) (tCallV i f S sp E t) := pe_callV F hr hx hN hv ha hd hcd he hpl
theorem pe_callV0 (F : FV X.prog X.w X.K X.mg X.base CX k f S sp) (hr : Room k X.A) (hx : Passes CX X E) (hN : X.N[i]? = some x) (hv : Vis X.env.scope x)
    (hd : (x == ("__debug__" : Str)) = false := by decide) (hcd : (x == ("__classdict__" : Str)) = false := by decide) : PE X (.Call (.Name x p) [] [] pos) (tCallV i f S sp E tNil) := by
  refine ⟨fun pins s σ H Q I h => ?_⟩
  obtain ⟨hs, hS, h1, q⟩ := h
  refine wpAny_Call_Name_kw (thn ((pe_var (pos := p) hN hv hd hcd).run pins s σ H (fun v H1 => v = .ref f ∧ H1 = H) I ⟨.ref f, hs, rfl, rfl⟩) fun u s1 ⟨v, H1, I1, r1, q1⟩ => ?_)
  obtain ⟨ev, eH⟩ := q1
  subst ev
  rw [eH] at I1
  have r1' : u = Value.ref f := r1
  subst r1'
  refine PySem.W.callWith_F0 (first := []) (F.fn H s1.heap I1.kIn I1.hok hS) ?_
  exact run_v F hr hx I1 h1 .nil q
end
/-! a call that hands functions of this frame on: its cells are shown meanwhile -/
structure CapX (X : Cx) (σ : L2.St) (cs : Cs) : Prop where
  ok : X.Ok
  dom : ∀ c o, cs.lookup c = some o → (∃ v, o.data = .cell v) ∧ ∃ y, X.env.cells.lookup y = some c
  all : ∀ y c, X.env.cells.lookup y = some c → ∃ o, cs.lookup c = some o
  val : ∀ (j : Nat) (y : Str) (v : V), X.N[j]? = some y → σ[j]? = some (some v) → X.env.scope.names.lookup y = some .cell → ∃ c u o, X.env.cells.lookup y = some c ∧ RelV v u ∧ cs.lookup c = some o ∧ o.data = .cell (some u)
def tCallC (X : Cx) (sp : Sp) (dvs : List V) (E : XK) (t : TA) : TE := fun σ H Q => t σ H fun vs H1 => ∀ cs : Cs, CapX X σ cs → (∀ c o, cs.lookup c = some o → H1 c = none) →
  sp (vs ++ dvs) (shw cs H1) (fun v H2 => HeldC cs H2 ∧ Q v (hid cs H2)) (fun cl d H2 => HeldC cs H2 ∧ E cl d (hid cs H2))
def capsOf (cells : List (Str × Addr)) (h : Heap) : Cs := cells.filterMap fun p => if cells.lookup p.1 = some p.2 then (h.get? p.2).map fun o => (p.2, o) else none
theorem lookup_mem {α : Type} : ∀ {l : List (Addr × α)} {c : Addr} {o : α}, l.lookup c = some o → (c, o) ∈ l
  | [], _, _, h => by cases h
  | (a, b) :: l, c, o, h => by
    rw [List.lookup_cons] at h
    cases q : c == a with
    | true =>
      rw [q] at h
      cases h
      rw [beq_iff_eq.mp q]
      exact List.mem_cons_self
    | false =>
      rw [q] at h
      exact List.mem_cons_of_mem _ (lookup_mem h)
theorem mem_lookup' {α : Type} : ∀ {l : List (Addr × α)} {c : Addr} {o : α}, (c, o) ∈ l → ∃ o', l.lookup c = some o'
  | (a, b) :: l, c, o, h => by
    rw [List.lookup_cons]
    cases q : c == a with
    | true => exact ⟨b, rfl⟩
    | false =>
      rcases List.mem_cons.mp h with e | e
      · cases e
        simp at q
      · exact mem_lookup' e
theorem capsOf_some {cells : List (Str × Addr)} {h : Heap} {c : Addr} {o : Obj} (e : (capsOf cells h).lookup c = some o) : h.get? c = some o ∧ ∃ y, cells.lookup y = some c := by
  have hm := lookup_mem e
  obtain ⟨⟨y, a⟩, _, h2⟩ := List.mem_filterMap.mp hm
  dsimp only at h2
  split at h2
  · rename_i hl
    cases q : h.get? a with
    | none => rw [q] at h2; cases h2
    | some o' =>
      rw [q] at h2
      have h3 : (a, o') = (c, o) := Option.some.inj h2
      cases h3
      exact ⟨q, y, hl⟩
  · cases h2
theorem mem_of_look {l : List (Str × Addr)} {y : Str} {c : Addr} (h : l.lookup y = some c) : (y, c) ∈ l := PySem.mem_of_lookup h
theorem capsOf_has {cells : List (Str × Addr)} {h : Heap} {y : Str} {c : Addr} {o : Obj} (e : cells.lookup y = some c) (ho : h.get? c = some o) : (capsOf cells h).lookup c = some o := by
  have hm : (c, o) ∈ capsOf cells h := List.mem_filterMap.mpr ⟨(y, c), mem_of_look e, by
    dsimp only
    rw [if_pos e, ho]
    rfl⟩
  obtain ⟨o', h'⟩ := mem_lookup' hm
  have := (capsOf_some h').1
  rw [ho] at this
  cases this
  exact h'
section
variable {X : Cx} {pins : List (Addr × Obj)} {σ : L2.St} {H : Hp} {s : Shared}
theorem capX_of (I : Inv X pins σ H s) : CapX X σ (capsOf X.env.cells s.heap) := by
  refine ⟨I.ok, fun c o e => ?_, fun y c e => ?_, fun j y v e1 e2 e3 => ?_⟩
  · obtain ⟨h1, y, h2⟩ := capsOf_some e
    obtain ⟨v, o', ho', hd⟩ := I.cell y c h2
    rw [h1] at ho'; cases ho'
    exact ⟨⟨v, hd⟩, y, h2⟩
  · obtain ⟨v, o', ho', hd⟩ := I.cell y c e
    exact ⟨o', capsOf_has e ho'⟩
  · obtain ⟨m, hn, hl⟩ := I.loc
    obtain ⟨u, r, l⟩ := hl j y v e1 e2 (.inr (.inl e3))
    rcases l with ⟨z, _⟩ | ⟨_, c, hc, o, ho, hd⟩
    · have z' : X.env.scope.names.lookup y = some .local := z
      rw [e3] at z'; cases z'
    · exact ⟨c, u, o, hc, r, capsOf_has hc ho, hd⟩
variable {CX : CXT} {k : Nat} {f : Addr} {fd : FuncData} {ps : List Str} {sp : Sp} {dvs : List V} {ds : List Value} {E : XK} {x : Str} {p pos : Pos} {e : Expr} {es : List Expr} {t : TA}
theorem caps_free (hfn : ∀ y, X.fn y = true) (I : Inv X pins σ H s) : ∀ c o, (capsOf X.env.cells s.heap).lookup c = some o → H c = none ∧ s.heap.get? c = some o ∧ c ∉ frs X.stack := fun c o e => by
  obtain ⟨h1, y, h2⟩ := capsOf_some e
  refine ⟨I.freeC y c h2, h1, fun hm => ?_⟩
  rcases List.mem_cons.mp (I.stkSub c hm) with z | z
  · exact I.cne y c h2 z
  · obtain ⟨_, o', ho', _⟩ := I.ok.funs.mem z
    exact absurd (Nat.lt_of_lt_of_le (Heap.lt_size ho') (I.ok.cab y c (hfn y) h2)) (Nat.lt_irrefl _)
theorem run_fnC {Q : VK} {us : List Value} {vs : List V} (hX : CxOk X.prog X.w CX) (F : FnOk X.prog X.w X.K X.mg X.base CX k f fd ps sp) (hr : Room k X.A) (hfn : ∀ y, X.fn y = true) (hb : Binds X.K fd ps ds) (hd : Vals dvs ds) (hx : Passes CX X E) (I : Inv X pins σ H s) (r : Vals vs us)
    (h : ∀ cs : Cs, CapX X σ cs → (∀ c o, cs.lookup c = some o → H c = none) → sp (vs ++ dvs) (shw cs H) (fun v H2 => HeldC cs H2 ∧ Q v (hid cs H2)) (fun cl d H2 => HeldC cs H2 ∧ E cl d (hid cs H2))) :
    wpAny (model X.prog X.w) X.A (call (.ref f) us) (EP X pins σ Q) X.xe s := by
  have hn := caps_free hfn I
  have hsp := h _ (capX_of I) fun c o e => (hn c o e).1
  have r2 : Vals (vs ++ dvs) (us ++ ds) := r.append hd
  have hl : (us ++ ds).length = ps.length := by rw [← r2.length]; exact F.len _ _ _ _ hsp
  have e0 := I.env0
  have notbase : ∀ b o, X.base.get? b = some o → (capsOf X.env.cells s.heap).lookup b = none := fun b o eb => by
    cases q : (capsOf X.env.cells s.heap).lookup b with
    | none => rfl
    | some y =>
      obtain ⟨_, y2, h2⟩ := capsOf_some q
      exact absurd (Nat.lt_of_lt_of_le (Nat.lt_of_lt_of_le (Heap.lt_size eb) I.ok.bsz) (I.ok.cab y2 b (hfn y2) h2)) (Nat.lt_irrefl _)
  have e1 : Env0 X.prog X.w X.K X.mg X.base X.A X.stack s (shw (capsOf X.env.cells s.heap) H) := ⟨e0.frames, e0.mod, fun b o eb => ⟨(e0.bs b o eb).1, by
      rw [shw_out (notbase b o eb)]; exact (e0.bs b o eb).2⟩, e0.bsz, e0.funs, fun b hb => by
      cases q : (capsOf X.env.cells s.heap).lookup b with
      | none => rw [shw_out q]; exact e0.frf b hb
      | some y => exact absurd hb (hn b y q).2.2, hok_shw e0.hok fun c o e => ⟨(hn c o e).1, (hn c o e).2.1⟩, e0.bare⟩
  refine wpAny_call (codeAny_mono (F.run X.A X.stack s _ ⟨us, []⟩ (us ++ ds) (vs ++ dvs) _ _ hr e1 (hb s us I.kIn hl) r2 hsp) fun rr s' hq => ?_)
  rcases rr with er | fl
  · exact hx pins σ H s er s' I (hX.hid _ _ H s E er s' hn hq)
  · cases fl with
    | ret u =>
      obtain ⟨v, H', os, bare, un, ok', rv, hc, q⟩ := hq
      obtain ⟨u1, k1⟩ := un_hid hn un ok' hc
      exact I.after ⟨v, _, os, bare, u1, k1, rv, q⟩
    | next => exact hq.elim
    | brk => exact hq.elim
    | cont => exact hq.elim
theorem pe_callC (hX : CxOk X.prog X.w CX) (F : FnOk X.prog X.w X.K X.mg X.base CX k f fd ps sp) (hr : Room k X.A) (hfn : ∀ y, X.fn y = true) (hg : Gl X x) (hm : X.mg x = some (.ref f)) (hk : PySem.W.keepIn X.K (.ref f) = true) (hb : Binds X.K fd ps ds) (hd : Vals dvs ds) (hx : Passes CX X E) (ha : PA X (e :: es) t)
    (hdb : (x == ("__debug__" : Str)) = false := by decide)
    (he : starEach (e :: es) X.env = (false, eval e X.env) :: starEach es X.env := by rfl) (hpl : (backTo pos (starEach es X.env)).any (·.1) = false := by rfl) : PE X (.Call (.Name x p) (e :: es) [] pos) (tCallC X sp dvs E t) := by
  refine ⟨fun pins s σ H Q I h => ?_⟩
  refine wpAny_Call_Name_kw (ld_glob I hg hm ?_ hdb)
  refine PySem.W.callWith_K (h₀ := X.base) I.ok.mod.kin hk (thn (ha.run pos pins s σ H _ I h) fun us s2 ⟨vs, H2, I2, r, q⟩ => ⟨I2.kIn, ?_⟩) he hpl
  exact run_fnC hX F hr hfn hb hd hx I2 r q
/-- the cells of a function made in this frame, as the frame's cells tell them -/
theorem cap_of {cs : Cs} {scope : Scope} {fr : List Str} {js : List Nat} (c : CapX X σ cs) (hfree : ∀ y ∈ scope.names, y.2 = .free → X.env.scope.names.lookup y.1 = some .cell) (hfr : ∀ y ∈ fr, (y, NameKind.free) ∈ scope.names) (hjs : js.map (fun j => X.N[j]?) = fr.map some) :
    Cap (cloFrom X.env.cells scope.names []) fr (js.map (slotAt σ)) cs := by
  have hf : ∀ y ∈ scope.names, y.2 = .free → ∃ a, X.env.cells.lookup y.1 = some a := fun y hy e => c.ok.has _ (.inl (hfree y hy e))
  have hlen := congrArg List.length hjs
  rw [List.length_map, List.length_map] at hlen
  refine ⟨by rw [List.length_map]; exact hlen, fun a o e => (c.dom a o e).1, fun y a e => c.all y a (clo_cm hf e), fun x y a e1 e2 => c.ok.inj x y a (clo_cm hf e1) (clo_cm hf e2), fun i y e => ?_⟩
  have hy := List.mem_of_getElem? e
  have hk := hfree (y, .free) (hfr y hy) rfl
  obtain ⟨a, ha⟩ := c.ok.has y (.inl hk)
  refine ⟨a, clo_has hf (hfr y hy) ha, fun v ev => ?_⟩
  have e2 : (js.map fun j => X.N[j]?)[i]? = some (some y) := by
    rw [hjs, List.getElem?_map, e]; rfl
  rw [List.getElem?_map] at e2 ev
  cases ej : js[i]? with
  | none => rw [ej] at e2; cases e2
  | some j =>
    rw [ej] at e2 ev
    have hj : X.N[j]? = some y := Option.some.inj (show some (X.N[j]?) = some (some y) from e2)
    have ev2 : σ[j]? = some (some v) := slotAt_some (Option.some.inj (show some (slotAt σ j) = some (some v) from ev))
    obtain ⟨a', u, o, h1, h2, h3, h4⟩ := c.val j y v hj ev2 hk
    rw [ha] at h1; cases h1
    exact ⟨u, o, h2, h3, h4⟩
end
/-! a def whose code object is told -/
structure FunC (K : PySem.W.Frag) (x qual : Str) (st : Stmt) (f : Addr) (fd : FuncData) (c : Addr) : Prop where
  ex : ∃ (oc : Value) (od : Option Addr) (kV doc pm : Value) (an : Option Addr) (ct : Value) (osl : Array (Option Value)),
    fd = PySem.W.fnOf x qual (defArgs st) (defBody st) (defScope st) .none kV doc pm an (.ref c) ct ∧ K.lookup f = some ⟨oc, od, .func fd, osl⟩ ∧ PySem.W.codeIn K (.ref c) qual = true
  kp : PySem.W.keepIn K (.ref f) = true
section
variable {P : Program} {w : World} {K : PySem.W.Frag} {mg : Str → Option Value} {base : Heap} {x qual : Str} {st : Stmt} {f c : Addr} {fd : FuncData} {N ps : List Str} {k : Nat} {sp : Sp}
theorem FunC.fun (F : FunC K x qual st f fd c) : Fun K x qual st f fd := by
  obtain ⟨oc, od, kV, doc, pm, an, ct, osl, e, l, h⟩ := F.ex
  exact ⟨⟨oc, od, kV, doc, pm, an, _, ct, osl, e, l, h⟩, F.kp⟩
theorem FunC.ok (F : FunC K x qual st f fd c) (S : FnScope N ps (defScope st)) (len : ∀ vs H Q E, sp vs H Q E → vs.length = ps.length)
    (hbody : ∀ (A : Around) (outer : List Env) (s : Shared) (H : Hp) (vs : List V) (Q : VK) (E : XK), Room k (A.deeper (envOfC qual (defScope st) s.heap.objs.size f (.ref c))) → sp vs H Q E →
      ∃ t, PSs (cxOf CX0 P w K mg base N qual (defScope st) f (.ref c) A outer s H E).nox (defBody st) t ∧ t { nx := fun _ H' => Q .non H', rt := Q } (start N vs) H) : FnOk P w K mg base CX0 (k + 1) f fd ps sp := by
  obtain ⟨oc, od, kV, doc, pm, an, ct, osl, rfl, lk, hcd⟩ := F.ex
  refine fn_of lk hcd S len fun A outer s H vs Q E hr hsp => ?_
  obtain ⟨t, h, q⟩ := hbody A outer s H vs Q E hr hsp
  exact ⟨t, h.nox, q⟩
theorem FunC.okX (F : FunC K x qual st f fd c) (S : FnScope N ps (defScope st)) (len : ∀ vs H Q E, sp vs H Q E → vs.length = ps.length)
    (hbody : ∀ (A : Around) (outer : List Env) (s : Shared) (H : Hp) (vs : List V) (Q : VK) (E : XK), Room k (A.deeper (envOfC qual (defScope st) s.heap.objs.size f (.ref c))) → sp vs H Q E →
      ∃ t, PSs (cxOf (L2.CX P w) P w K mg base N qual (defScope st) f (.ref c) A outer s H E) (defBody st) t ∧ t { nx := fun _ H' => Q .non H', rt := Q } (start N vs) H) : FnOk P w K mg base (L2.CX P w) (k + 1) f fd ps sp := by
  obtain ⟨oc, od, kV, doc, pm, an, ct, osl, rfl, lk, hcd⟩ := F.ex
  exact fn_of lk hcd S len fun A outer s H vs Q E hr hsp => hbody A outer s H vs Q E hr hsp
theorem funC_mk {oc : Value} {od an : Option Addr} {osl : Array (Option Value)} {kV doc pm ct : Value} (l : K.lookup f = some ⟨oc, od, .func (PySem.W.fnOf x qual (defArgs st) (defBody st) (defScope st) .none kV doc pm an (.ref c) ct), osl⟩)
    (cd : PySem.W.codeIn K (.ref c) qual = true) (k : PySem.W.keepIn K (.ref f) = true) : FunC K x qual st f (PySem.W.fnOf x qual (defArgs st) (defBody st) (defScope st) .none kV doc pm an (.ref c) ct) c := ⟨⟨oc, od, kV, doc, pm, an, ct, osl, rfl, l, cd⟩, k⟩
end
end Vf
set_option Elab.async false
set_option linter.all false
set_option maxRecDepth 100000
set_option maxHeartbeats 4000000
/-! lambdas as values -/
namespace Vf
open PySem L2 PyProof.Rows NdefX LamX
abbrev lamO (F : NF) (e : Expr) (pm ctv : Value) : Obj := PySem.W.kla_obj F.name F.qual F.params e F.scope F.cl pm F.c ctv
/-- the object at f is the lambda with this body -/
def FnL (f : Addr) (F : NF) (e : Expr) : HO := .ext fun h => ∃ (pm ctv : Value), h.get? f = some (lamO F e pm ctv)
theorem fnL_at {P : Program} {w : World} {H : Hp} {h : Heap} {f : Addr} {F : NF} {e : Expr} (ok : HOk P w H h) (q : H f = some (FnL f F e)) : ∃ (pm ctv : Value), h.get? f = some (lamO F e pm ctv) := (ok f _ q).1
structure LOk (P : Program) (w : World) (K : PySem.W.Frag) (mg : Str → Option Value) (base : Heap) (CX : CXT) (k : Nat) (f : Addr) (F : NF) (e : Expr) (ps fr : List Str) (sp : List (Option V) → Sp) : Prop where
  run : ∀ (A : Around) (outer : List Env) (s : Shared) (H : Hp) (us : List Value) (vs : List V) (ws : List (Option V)) (Q : VK) (E : XK), Room k A → Env0 P w K mg base A outer s H → H f = some (FnL f F e) → H F.c = some (CodeO F.c F.qual) →
    CellsAt F.cl fr ws s.heap H → Vals vs us → sp ws vs H Q E → codeAny (model P w) A (.call (.ref f) ⟨us, []⟩) (CR CX outer P w H s Q E) s
structure HeldL (f : Addr) (F : NF) (e : Expr) (cs : Cs) (H : Hp) : Prop where
  fn : H f = some (FnL f F e)
  code : H F.c = some (CodeO F.c F.qual)
  cells : HeldC cs H
section
variable {P : Program} {w : World} {K : PySem.W.Frag} {mg : Str → Option Value} {base : Heap} {CX : CXT} {k : Nat} {f : Addr} {F : NF} {e : Expr} {N ps fr : List Str} {ws : List (Option V)} {cs : Cs} {sp : List (Option V) → Sp}
theorem lok_of (S : NScope N ps fr F.scope) (hb : ∀ (pm ctv : Value) (us : List Value), us.length = ps.length → bindArgs (PySem.W.kla_fn F.name F.qual F.params e F.scope F.cl pm (.ref F.c) ctv) ⟨us, []⟩ = pure (ps.zip us)) (len : ∀ ws vs H Q E, sp ws vs H Q E → vs.length = ps.length)
    (hbody : ∀ (A : Around) (outer : List Env) (s : Shared) (H : Hp) (vs : List V) (ws : List (Option V)) (Q : VK) (E : XK), Room k (A.deeper (envF F f s.heap.objs.size)) → ws.length = fr.length → sp ws vs H Q E →
      ∃ t, PE (ncx CX P w K mg base N F f A outer s H E) e t ∧ t (startF N vs ws) H Q) :
    LOk P w K mg base CX (k + 1) f F e ps fr sp := by
  refine ⟨fun A outer s H us vs ws Q E hr e0 hf hc C r hsp => ?_⟩
  have hl := len _ _ _ _ _ hsp
  have lim : s.heap.NoLimit := e0.mod.nolimit.keeps fun b o eb => (e0.bs b o eb).1
  obtain ⟨pm, ctv, ho⟩ := fnL_at e0.hok hf
  obtain ⟨⟨oc, vc, tc, hoc, hdc, hvc⟩, _, _⟩ := e0.hok _ _ hc
  refine PySem.W.kla_callFunE hr.depth ho rfl S.co S.gen rfl ⟨F.c, oc, vc, tc, rfl, hoc, hdc, hvc⟩ ?_
  have hbu := hb pm ctv us (by rw [← r.length]; exact hl)
  rw [hbu]
  refine wpAny_pure (wpAny_newFunctionEnv S.nocell (fun ⟨n, _⟩ hy => S.par n (List.of_mem_zip hy).1) (fun h₁ hns hsb => ⟨lim.fresh _ hsb, ?_⟩) S.kind)
  show codeAny _ _ (.expr e (envF F f s.heap.objs.size)) _ _
  have keeps : ∀ b o, s.heap.get? b = some o → h₁.get? b = some o := fun b o eb => hsb.extBut b o (Nat.ne_of_lt (Heap.lt_size eb)) (Heap.get?_push_of_some _ eb)
  obtain ⟨t, ht, hq⟩ := hbody A outer s H vs ws Q E (hr.deeper _) C.len hsp
  have I := inv_startN (CX := CX) (P := P) (w := w) (K := K) (mg := mg) (base := base) (f := f) (A := A) (outer := outer) (E := E) (tk := s.toks + (ps.zip us).length) S hr.hd e0 hl r C hns keeps
  refine PySem.W.kla_codeExpr (wpAny_mono (ht.run [] _ (startF N vs ws) H Q I hq) (fun v s' hs => ?_) fun er s' hs => hs)
  obtain ⟨v2, H2, J, rv, q⟩ := hs
  exact ⟨v2, H2, J.os, J.bare, J.base, J.hok, rv, q⟩
theorem fv_of_lok (hX : CxOk P w CX) (o : LOk P w K mg base CX k f F e ps fr sp) (c : Cap F.cl fr ws cs) : FV P w K mg base CX k f (HeldL f F e cs) (spHid cs (sp ws)) := by
  refine ⟨fun H h ki ok q => ?_, fun A outer s H us vs Q E hr e0 q r z => ?_⟩
  · obtain ⟨pm, ctv, ho⟩ := fnL_at ok q.fn
    exact ⟨_, _, _, _, ho⟩
  · have nfs : ∀ c o, cs.lookup c = some o → c ∉ frs outer := fun c o e1 hm => by
      have := e0.frf c hm
      rw [q.cells c o e1] at this; cases this
    have okh := hok_hid e0.hok q.cells
    have e2 : Env0 P w K mg base A outer s (hid cs H) := ⟨e0.frames, e0.mod, fun b o eb => ⟨(e0.bs b o eb).1, by
        cases q2 : cs.lookup b with
        | some y => exact hid_in q2
        | none => rw [hid_out q2]; exact (e0.bs b o eb).2⟩, e0.bsz, e0.funs, fun b hb => by
        cases q2 : cs.lookup b with
        | some y => exact hid_in q2
        | none => rw [hid_out q2]; exact e0.frf b hb, okh, e0.bare⟩
    have of : cs.lookup f = none := by
      cases q2 : cs.lookup f with
      | none => rfl
      | some y =>
        obtain ⟨pm, ctv, ho⟩ := fnL_at e0.hok q.fn
        have h1 := cell_at e0.hok q.cells q2
        obtain ⟨v, hv⟩ := c.cell f y q2
        rw [ho] at h1; cases h1; cases hv
    have oc : cs.lookup F.c = none := by
      cases q2 : cs.lookup F.c with
      | none => rfl
      | some y =>
        obtain ⟨⟨o1, v1, t1, h1, h2, h3⟩, _, _⟩ := e0.hok _ _ q.code
        have h4 := cell_at e0.hok q.cells q2
        obtain ⟨v, hv⟩ := c.cell _ y q2
        rw [h1] at h4; cases h4
        rw [h2] at hv; cases hv
    have C : CellsAt F.cl fr ws s.heap (hid cs H) := ⟨c.len, fun y a ea => by
        obtain ⟨o, ho⟩ := c.all y a ea
        obtain ⟨v, hv⟩ := c.cell a o ho
        exact ⟨hid_in ho, v, o, cell_at e0.hok q.cells ho, hv⟩, c.inj, fun i y ey => by
        obtain ⟨a, ha, hv⟩ := c.has i y ey
        exact ⟨a, ha, fun v ev => by
          obtain ⟨u, o, h1, h2, h3⟩ := hv v ev
          exact ⟨u, h1, o, cell_at e0.hok q.cells h2, h3⟩⟩⟩
    refine codeAny_mono (o.run A outer s (hid cs H) us vs ws _ _ hr e2 (by rw [hid_out of]; exact q.fn) (by rw [hid_out oc]; exact q.code) C r z) fun rr s' hq => ?_
    rcases rr with er | fl
    · exact hX.shw outer cs H s E er s' e0.hok q.cells nfs hq
    · cases fl with
      | next => exact hq
      | brk => exact hq
      | cont => exact hq
      | ret u =>
        obtain ⟨v, H', os, bare, un, ok', rv, q2⟩ := hq
        obtain ⟨u1, k1, k2⟩ := un_shw e0.hok q.cells nfs un ok'
        exact ⟨v, _, os, bare, u1, k1, rv, q2 k2⟩
end
section
variable {X : Cx} {pins : List (Addr × Obj)} {σ : L2.St} {H : Hp} {s : Shared}
theorem inv_fnL {F : NF} {e : Expr} {o : Obj} {t' : Nat} {pm ctv : Value} (I : Inv X pins σ H s) (ho : o = lamO F e pm ctv) :
    Inv X pins σ (upd H s.heap.objs.size (FnL s.heap.objs.size F e)) { s with heap := s.heap.push o, toks := t' } := by
  subst ho
  refine I.laid (a := s.heap.objs.size) (fun b u eb => Heap.get?_push_of_some _ eb) (Nat.le_refl _) ?_
  have e1 : (s.heap.push (lamO F e pm ctv)).get? s.heap.objs.size = some (lamO F e pm ctv) := Heap.get?_push_size _ rfl
  exact ⟨⟨pm, ctv, e1⟩, ⟨_, e1⟩, fun h1 h2 ⟨p, t, z⟩ st => ⟨p, t, st _ z⟩⟩
/-- its code object is new, or stands in the table -/
theorem lam_made {T : List NTab} {nm : Nat → Nat → Str} {c P : Addr} {params : Arguments} {body : Expr} {scope : Scope} {pos : Pos} {E : Value → Shared → Prop} {Q : Value → Shared → Prop} (I : Inv X pins σ H s) (TB : TabB X.base X.mg c P) (hcode : X.env.code = .ref c)
    (hm : (P, nm) ∈ T) (hn : nm pos.line pos.col = X.env.qual ++ "<lambda>") (hu : ∀ p ∈ T, p.1 = P → p.2 = nm) (hT : TabsN T H) (hdef : defaultsOf params X.env = ([], [])) (hfree : ∀ y ∈ scope.names, y.2 = .free → ∃ c, X.env.cells.lookup y.1 = some c)
    (h : ∀ (f c' : Addr) (H1 : Hp) (s' : Shared), Inv X pins σ H1 s' → ExtN H H1 → (∀ b, H1 b = none → H b = none) → TabsN T H1 → H f = none → H1 f = some (FnL f ⟨"<lambda>", X.env.qual ++ "<lambda>", params, [], scope, cloFrom X.env.cells scope.names [], c'⟩ body) → H1 c' = some (CodeO c' (X.env.qual ++ "<lambda>")) → Q (.ref f) s') :
    wpAny (model X.prog X.w) X.A (eval (.Lambda params body scope pos) X.env) Q E s := by
  obtain ⟨ps, hP, ht, ha⟩ := (show TabN H P nm from hT _ hm)
  have bP : s.heap.BuiltinsAt X.mg P := TB.bm.keeps I.bk
  have hP' : s.heap.get? P = some { cls := .none, data := .fields ps } := I.hok P _ hP
  refine PySem.W.kla_eval hdef ?_
  cases hc : codeAmong pos ps.toList with
  | none =>
    refine PySem.W.kla_makeFunction (mg := X.mg) (c := c) (P := P) (ps := ps) (closure_ok hfree) I.ok.glob (I.mod.glob.keeps I.bk) hcode (TB.code.keeps I.bk) hP' ht hc TB.gP bP fun c' ctv h' tk hx hge hlt hrec htb => ?_
    obtain ⟨c2, oc, vs, t, e2, hoc, hd, hv⟩ := hrec
    cases e2
    have nC : H c' = none := I.hok.fresh hge
    have I1 := inv_table (t' := tk) (more := #[rawInt pos.line, rawInt pos.col, .ref c']) (h' := h') I hP (fun b o hb e => hx b o hb e) htb hge ⟨oc, vs, t, hoc, hd, hv⟩
    generalize eH1 : upd (upd H P (.tbl (ps ++ #[rawInt pos.line, rawInt pos.col, .ref c']))) c' (CodeO c' (X.env.qual ++ "<lambda>")) = H1
    have hE : ExtN H H1 := fun b o e n => by
      have n1 : b ≠ P := fun z => n ps (Option.some.inj (e.symm.trans (by rw [z]; exact hP)))
      rw [← eH1, upd_ne (ne_of_none e nC), upd_ne n1]
      exact e
    have T1 : TabsN T H1 := fun p hp => by
      by_cases hb : p.1 = P
      · have e3 : p.2 = nm := hu p hp hb
        rw [e3, hb]
        refine ⟨ps ++ #[rawInt pos.line, rawInt pos.col, .ref c'], by rw [← eH1, upd_ne (ne_of_none hP nC), upd_same], ?_, fun p' cv hcv => ?_⟩
        · rw [Array.toList_append]
          exact PySem.TriplesOk_snoc _ _ _ _ ht
        · rw [Array.toList_append] at hcv
          rcases among_app2 _ ht hcv with z | ⟨z, z1, z2⟩
          · obtain ⟨c0, e1, e2⟩ := ha p' cv z
            exact ⟨c0, e1, hE _ _ e2 codeO_ne⟩
          · refine ⟨c', z, ?_⟩
            rw [← z1, ← z2, hn, ← eH1]
            exact upd_same
      · obtain ⟨ps', a1, a2, a3⟩ := hT p hp
        refine ⟨ps', by rw [← eH1, upd_ne (ne_of_none a1 nC), upd_ne hb]; exact a1, a2, fun p' cv hcv => ?_⟩
        obtain ⟨c0, e1, e2⟩ := a3 p' cv hcv
        exact ⟨c0, e1, hE _ _ e2 codeO_ne⟩
    have cH1 : H1 c' = some (CodeO c' (X.env.qual ++ "<lambda>")) := by rw [← eH1]; exact upd_same
    have back : ∀ b, H1 b = none → H b = none := fun b e => by
      rw [← eH1] at e
      exact upd_none (upd_none e)
    rw [eH1] at I1
    have nF := I1.hok.fresh (Nat.le_refl _)
    have I2 := inv_fnL (F := ⟨"<lambda>", X.env.qual ++ "<lambda>", params, [], scope, cloFrom X.env.cells scope.names [], c'⟩) (e := body) (t' := tk) (pm := (X.mg "__name__").getD .none) (ctv := ctv) I1 rfl
    refine h h'.objs.size c' _ _ I2 (fun b o e n => ?_) (fun b e => back b (upd_none e)) (T1.ext fun b o e => ?_) (I.hok.fresh (Nat.le_trans hge (Nat.le_of_lt hlt))) upd_same ?_
    · exact (upd_ne (ne_of_none (hE b o e n) nF)).trans (hE b o e n)
    · exact (upd_ne (ne_of_none e nF)).trans e
    · exact (upd_ne (Nat.ne_of_lt hlt)).trans cH1
  | some cv =>
    obtain ⟨c', e, hco⟩ := ha pos cv hc
    subst e
    rw [hn] at hco
    refine PySem.W.kla_makeFunctionHit (mg := X.mg) (c := c) (P := P) (ps := ps) (closure_ok hfree) I.ok.glob (I.mod.glob.keeps I.bk) hcode (TB.code.keeps I.bk) hP' ht hc bP fun ctv h' tk hx hsz => ?_
    have I1 : Inv X pins σ H { s with heap := h', toks := tk } := I.kept hx
    have nF : H h'.objs.size = none := I1.hok.fresh (Nat.le_refl _)
    have I2 := inv_fnL (F := ⟨"<lambda>", X.env.qual ++ "<lambda>", params, [], scope, cloFrom X.env.cells scope.names [], c'⟩) (e := body) (t' := tk) (pm := (X.mg "__name__").getD .none) (ctv := ctv) I1 rfl
    refine h h'.objs.size c' _ _ I2 (fun b o e n => ?_) (fun b e => upd_none e) (hT.ext fun b o e => ?_) nF upd_same ?_
    · exact (upd_ne (ne_of_none e nF)).trans e
    · exact (upd_ne (ne_of_none e nF)).trans e
    · exact (upd_ne (ne_of_none hco nF)).trans hco
end
/-- the reading of a lambda's making -/
def tLamV (T : List NTab) (mk : Addr → NF) (body : Expr) : TE := fun σ H Q => TabsN T H ∧ ∀ (f c' : Addr) (H1 : Hp), ExtN H H1 → (∀ b, H1 b = none → H b = none) → TabsN T H1 → H f = none → H1 f = some (FnL f (mk c') body) → H1 c' = some (CodeO c' (mk c').qual) → Q (.ref f) H1
theorem pe_lamV {X : Cx} {T : List NTab} {nm : Nat → Nat → Str} {c P : Addr} {params : Arguments} {body : Expr} {scope : Scope} {pos : Pos} (TB : TabB X.base X.mg c P) (hcode : X.env.code = .ref c) (hm : (P, nm) ∈ T) (hn : nm pos.line pos.col = X.env.qual ++ "<lambda>") (hu : ∀ p ∈ T, p.1 = P → p.2 = nm)
    (hdef : defaultsOf params X.env = ([], [])) (hfree : ∀ y ∈ scope.names, y.2 = .free → X.env.scope.names.lookup y.1 = some .cell ∨ X.env.scope.names.lookup y.1 = some .free) :
    PE X (.Lambda params body scope pos) (tLamV T (fun c' => ⟨"<lambda>", X.env.qual ++ "<lambda>", params, [], scope, cloFrom X.env.cells scope.names [], c'⟩) body) := by
  refine ⟨fun pins s σ H Q I h => ?_⟩
  obtain ⟨hT, h⟩ := h
  have hfr : ∀ y ∈ scope.names, y.2 = .free → ∃ c, X.env.cells.lookup y.1 = some c := fun y hy e => (hfree y hy e).elim (fun z => I.ok.has _ (.inl z)) fun z => I.ok.has _ (.inr z)
  exact lam_made I TB hcode hm hn hu hT hdef hfr fun f c' H1 s' I1 eN back T1 f0 f1 c1 => ⟨.ref f, H1, I1, rfl, h f c' H1 eN back T1 f0 f1 c1⟩
end Vf
set_option Elab.async false
set_option linter.all false
set_option maxRecDepth 100000
set_option maxHeartbeats 4000000
/-! machines explored: the mirror, keys, dicts of numbers -/
namespace Vf
open PySem L2 PyProof.Rows NdefX LamX
section
variable {κ : Type} [DecidableEq κ]
/-- the number of a key among those found -/
def num (ks : List κ) (k : κ) : Nat := ks.idxOf k
/-- one letter: the key behind is added where it is new -/
def add1 (ks : List κ) (k : κ) : List κ := if k ∈ ks then ks else ks ++ [k]
/-- a row: state (keys, row) over the letters -/
def rowOf (st : κ → Nat → κ) (m : κ) : List Nat → List κ × List Nat → List κ × List Nat
  | [], p => p
  | c :: cs, (ks, row) => rowOf st m cs (add1 ks (st m c), row ++ [num (add1 ks (st m c)) (st m c)])
/-- one turn of the exploring -/
def turn (st : κ → Nat → κ) (L : List Nat) (p : List κ × List (List Nat)) : List κ × List (List Nat) :=
  match p.1[p.2.length]? with
  | none => p
  | some m => ((rowOf st m L (p.1, [])).1, p.2 ++ [(rowOf st m L (p.1, [])).2])
def turns (st : κ → Nat → κ) (L : List Nat) (s0 : κ) : Nat → List κ × List (List Nat)
  | 0 => ([s0], [])
  | n + 1 => turn st L (turns st L s0 n)
theorem add1_mem {ks : List κ} {k : κ} : k ∈ add1 ks k := by
  unfold add1
  split
  · assumption
  · simp
theorem add1_sub {ks : List κ} {k x : κ} (h : x ∈ ks) : x ∈ add1 ks k := by
  unfold add1
  split
  · exact h
  · simp [h]
theorem add1_pre (ks : List κ) (k : κ) : ks <+: add1 ks k := by
  unfold add1
  split
  · exact List.prefix_refl _
  · exact List.prefix_append _ _
theorem add1_nodup {ks : List κ} {k : κ} (h : ks.Nodup) : (add1 ks k).Nodup := by
  unfold add1
  split
  · exact h
  · rename_i hn
    exact List.nodup_append.mpr ⟨h, by simp, fun a ha b hb e => by simp at hb; subst hb; subst e; exact hn ha⟩
theorem add1_len (ks : List κ) (k : κ) : (add1 ks k).length ≤ ks.length + 1 := by
  unfold add1
  split
  · omega
  · simp
theorem rowOf_pre (st : κ → Nat → κ) (m : κ) : ∀ (L : List Nat) (p : List κ × List Nat), p.1 <+: (rowOf st m L p).1
  | [], p => List.prefix_refl _
  | c :: cs, (ks, row) => (add1_pre ks (st m c)).trans (rowOf_pre st m cs (add1 ks (st m c), row ++ [num (add1 ks (st m c)) (st m c)]))
theorem rowOf_nodup (st : κ → Nat → κ) (m : κ) : ∀ (L : List Nat) (p : List κ × List Nat), p.1.Nodup → (rowOf st m L p).1.Nodup
  | [], p, h => h
  | c :: cs, (ks, row), h => rowOf_nodup st m cs _ (add1_nodup h)
theorem rowOf_len (st : κ → Nat → κ) (m : κ) : ∀ (L : List Nat) (p : List κ × List Nat), (rowOf st m L p).1.length ≤ p.1.length + L.length
  | [], p => Nat.le_refl _
  | c :: cs, (ks, row) => by
    have h1 := rowOf_len st m cs (add1 ks (st m c), row ++ [num (add1 ks (st m c)) (st m c)])
    have h2 := add1_len ks (st m c)
    show (rowOf st m cs (add1 ks (st m c), row ++ [num (add1 ks (st m c)) (st m c)])).1.length ≤ ks.length + (cs.length + 1)
    dsimp only at h1
    omega
theorem rowOf_row (st : κ → Nat → κ) (m : κ) : ∀ (L : List Nat) (p : List κ × List Nat), (rowOf st m L p).2.length = p.2.length + L.length
  | [], p => rfl
  | c :: cs, (ks, row) => by
    have h1 := rowOf_row st m cs (add1 ks (st m c), row ++ [num (add1 ks (st m c)) (st m c)])
    show (rowOf st m cs (add1 ks (st m c), row ++ [num (add1 ks (st m c)) (st m c)])).2.length = row.length + (cs.length + 1)
    rw [h1, List.length_append]
    show row.length + 1 + cs.length = row.length + (cs.length + 1)
    omega
theorem rowOf_append (st : κ → Nat → κ) (m : κ) : ∀ (L L' : List Nat) (p : List κ × List Nat), rowOf st m (L ++ L') p = rowOf st m L' (rowOf st m L p)
  | [], L', p => rfl
  | c :: cs, L', (ks, row) => rowOf_append st m cs L' _
theorem turn_pre (st : κ → Nat → κ) (L : List Nat) (p : List κ × List (List Nat)) : p.1 <+: (turn st L p).1 := by
  unfold turn
  split
  · exact List.prefix_refl _
  · exact rowOf_pre st _ L (p.1, [])
theorem turns_pre (st : κ → Nat → κ) (L : List Nat) (s0 : κ) : ∀ {i n : Nat}, i ≤ n → (turns st L s0 i).1 <+: (turns st L s0 n).1
  | i, 0, h => by
    have : i = 0 := by omega
    subst this
    exact List.prefix_refl _
  | i, n + 1, h => by
    by_cases e : i = n + 1
    · subst e; exact List.prefix_refl _
    · exact (turns_pre st L s0 (by omega : i ≤ n)).trans (turn_pre st L _)
theorem turns_len (st : κ → Nat → κ) (L : List Nat) (s0 : κ) {i n : Nat} (h : i ≤ n) : (turns st L s0 i).1.length ≤ (turns st L s0 n).1.length := (turns_pre st L s0 h).length_le
theorem turns_nodup (st : κ → Nat → κ) (L : List Nat) (s0 : κ) : ∀ n, (turns st L s0 n).1.Nodup
  | 0 => by simp [turns]
  | n + 1 => by
    show (turn st L (turns st L s0 n)).1.Nodup
    unfold turn
    split
    · exact turns_nodup st L s0 n
    · exact rowOf_nodup st _ L (_, []) (turns_nodup st L s0 n)
theorem turns_rows_le (st : κ → Nat → κ) (L : List Nat) (s0 : κ) : ∀ n, (turns st L s0 n).2.length ≤ (turns st L s0 n).1.length
  | 0 => by simp [turns]
  | n + 1 => by
    show (turn st L (turns st L s0 n)).2.length ≤ (turn st L (turns st L s0 n)).1.length
    unfold turn
    split
    · exact turns_rows_le st L s0 n
    · rename_i m hm
      have h1 := (List.getElem?_eq_some_iff.mp hm).1
      have h2 := (rowOf_pre st m L ((turns st L s0 n).1, [])).length_le
      rw [List.length_append]
      dsimp only at h2 ⊢
      rw [List.length_singleton]
      omega
/-- once as many rows as keys stand, nothing changes -/
theorem turn_stays (st : κ → Nat → κ) (L : List Nat) {p : List κ × List (List Nat)} (h : p.1.length ≤ p.2.length) : turn st L p = p := by
  unfold turn
  rw [List.getElem?_eq_none h]
theorem turns_stay (st : κ → Nat → κ) (L : List Nat) (s0 : κ) {i : Nat} (h : (turns st L s0 i).1.length ≤ (turns st L s0 i).2.length) : ∀ n, i ≤ n → turns st L s0 n = turns st L s0 i
  | 0, hn => by
    have : i = 0 := by omega
    subst this; rfl
  | n + 1, hn => by
    by_cases e : i = n + 1
    · subst e; rfl
    · have ih := turns_stay st L s0 h n (by omega)
      show turn st L (turns st L s0 n) = _
      rw [ih]
      exact turn_stays st L h
/-- while not all keys have a row, each turn adds one -/
theorem turns_rows (st : κ → Nat → κ) (L : List Nat) (s0 : κ) : ∀ {n : Nat}, (∀ i < n, (turns st L s0 i).2.length < (turns st L s0 i).1.length) → (turns st L s0 n).2.length = n
  | 0, _ => rfl
  | n + 1, h => by
    have ih := turns_rows st L s0 (n := n) fun i hi => h i (by omega)
    have hl := h n (by omega)
    show (turn st L (turns st L s0 n)).2.length = n + 1
    unfold turn
    rw [List.getElem?_eq_getElem hl]
    dsimp only
    rw [List.length_append, List.length_singleton, ih]
/-- what all is found, if no more than most keys come -/
theorem turns_done (st : κ → Nat → κ) (L : List Nat) (s0 : κ) {most : Nat} (h : (turns st L s0 most).1.length ≤ most) : (turns st L s0 most).2.length = (turns st L s0 most).1.length := by
  by_cases q : ∀ i < most, (turns st L s0 i).2.length < (turns st L s0 i).1.length
  · have h1 := turns_rows st L s0 q
    have h2 := turns_rows_le st L s0 most
    omega
  · simp only [Nat.not_lt, Classical.not_forall] at q
    obtain ⟨i, hi, hq⟩ := q
    have e := turns_stay st L s0 hq most (by omega)
    rw [e]
    have h2 := turns_rows_le st L s0 i
    omega
theorem num_lt {ks : List κ} {k : κ} (h : k ∈ ks) : num ks k < ks.length := List.idxOf_lt_length_iff.mpr h
theorem rowOf_all (st : κ → Nat → κ) (m : κ) : ∀ (L : List Nat) (p : List κ × List Nat), (∀ x ∈ p.2, x < p.1.length) → ∀ x ∈ (rowOf st m L p).2, x < (rowOf st m L p).1.length
  | [], p, h => h
  | c :: cs, (ks, row), h => rowOf_all st m cs (add1 ks (st m c), row ++ [num (add1 ks (st m c)) (st m c)]) fun x hx => by
    rcases List.mem_append.mp hx with q | q
    · exact Nat.lt_of_lt_of_le (h x q) (add1_pre ks (st m c)).length_le
    · rw [List.mem_singleton.mp q]
      exact num_lt add1_mem
theorem turns_all (st : κ → Nat → κ) (L : List Nat) (s0 : κ) : ∀ n, ∀ row ∈ (turns st L s0 n).2, row.length = L.length ∧ ∀ x ∈ row, x < (turns st L s0 n).1.length
  | 0, row, h => nomatch h
  | n + 1, row, h => by
    have ih := turns_all st L s0 n
    have hp := (turns_pre st L s0 (Nat.le_succ n)).length_le
    revert h hp
    show row ∈ (turn st L (turns st L s0 n)).2 → (turns st L s0 n).1.length ≤ (turn st L (turns st L s0 n)).1.length → row.length = L.length ∧ ∀ x ∈ row, x < (turn st L (turns st L s0 n)).1.length
    unfold turn
    split
    · intro h _
      exact ih row h
    · rename_i m hm
      intro h hp
      rcases List.mem_append.mp h with q | q
      · exact ⟨(ih row q).1, fun x hx => Nat.lt_of_lt_of_le ((ih row q).2 x hx) hp⟩
      · rw [List.mem_singleton.mp q]
        refine ⟨by rw [rowOf_row]; simp, rowOf_all st m L _ (fun x hx => nomatch hx)⟩
theorem rowOf_dm (st : κ → Nat → κ) {Dm : κ → Prop} {m : κ} (hm : Dm m) : ∀ (L : List Nat) (_ : ∀ k c, Dm k → c ∈ L → Dm (st k c)) (p : List κ × List Nat), (∀ k ∈ p.1, Dm k) → ∀ k ∈ (rowOf st m L p).1, Dm k
  | [], _, p, h => h
  | c :: cs, hD, (ks, row), h => rowOf_dm st hm cs (fun k d hk hd => hD k d hk (List.mem_cons_of_mem _ hd)) (add1 ks (st m c), row ++ [num (add1 ks (st m c)) (st m c)]) fun k hk => by
    have hk : k ∈ add1 ks (st m c) := hk
    unfold add1 at hk
    split at hk
    · exact h k hk
    · rcases List.mem_append.mp hk with q | q
      · exact h k q
      · rw [List.mem_singleton.mp q]; exact hD m c hm List.mem_cons_self
theorem turns_dm (st : κ → Nat → κ) (L : List Nat) (s0 : κ) {Dm : κ → Prop} (h0 : Dm s0) (hD : ∀ k c, Dm k → c ∈ L → Dm (st k c)) : ∀ n, ∀ k ∈ (turns st L s0 n).1, Dm k
  | 0, k, h => by rw [List.mem_singleton.mp h]; exact h0
  | n + 1, k, h => by
    have ih := turns_dm st L s0 h0 hD n
    revert h
    show k ∈ (turn st L (turns st L s0 n)).1 → Dm k
    unfold turn
    split
    · exact ih k
    · rename_i m hm
      exact rowOf_dm st (ih m (List.mem_of_getElem? hm)) L hD (_, []) ih k
/-! dicts from keys to their numbers -/
def nums (ks : List κ) : List (κ × V) := ks.zipIdx.map fun p => (p.1, V.int (p.2 : Int))
theorem nums_len (ks : List κ) : (nums ks).length = ks.length := by simp [nums]
theorem nums_snoc (ks : List κ) (k : κ) : nums (ks ++ [k]) = nums ks ++ [(k, V.int (ks.length : Int))] := by
  simp [nums, List.zipIdx_append]
theorem valV_append (k : κ) : ∀ (a b : List (κ × V)), valV (a ++ b) k = (valV a k).orElse fun _ => valV b k
  | [], b => rfl
  | p :: a, b => by
    by_cases e : p.1 = k
    · rw [List.cons_append, valV_pos e, valV_pos e]; rfl
    · rw [List.cons_append, valV_neg e, valV_neg e]; exact valV_append k a b
theorem valV_numsAt {k : κ} : ∀ (ks : List κ) (n : Nat), valV ((ks.zipIdx n).map fun p => (p.1, V.int (p.2 : Int))) k = if k ∈ ks then some (V.int ((n + ks.idxOf k : Nat) : Int)) else none
  | [], _ => rfl
  | x :: ks, n => by
    rw [List.zipIdx_cons, List.map_cons]
    by_cases e : x = k
    · subst e
      rw [valV_pos rfl, if_pos (by simp), List.idxOf_cons_self]
      rfl
    · have ex : ¬ k = x := fun z => e z.symm
      rw [valV_neg e, valV_numsAt ks (n + 1)]
      by_cases h : k ∈ ks
      · have e2 : (x :: ks).idxOf k = ks.idxOf k + 1 := by rw [List.idxOf_cons, beq_false_of_ne e]; rfl
        rw [if_pos h, if_pos (by simp [h]), e2]
        congr 2
        omega
      · rw [if_neg h, if_neg (by simp [h, ex])]
theorem valV_nums {k : κ} {ks : List κ} : valV (nums ks) k = if k ∈ ks then some (V.int (num ks k : Nat)) else none := by
  have := valV_numsAt (k := k) ks 0
  rw [Nat.zero_add] at this
  exact this
theorem putK_nums {ks : List κ} {k : κ} (h : k ∉ ks) : putK (nums ks) k (V.int (ks.length : Int)) = nums (ks ++ [k]) := by
  rw [nums_snoc, putK_new]
  rw [valV_nums, if_neg h]
end
/-! {k: v}, one pair, the key a tuple -/
def tDispT (tk tv : TE) : TE := fun σ H Q => ∀ p, H p = none → tPairs [(tk, tv)] σ (L2.upd H p (.dT [])) fun ps H2 => H2 p = some (.dT []) ∧
  ∃ (x : List Key) (b : Addr) (v : V), ps = [(.ref b, v)] ∧ H2 b = some (.tup (x.map kV)) ∧ Q (.ref p) (L2.upd H2 p (.dT [(x, v)]))
theorem Raised.aft {H H1 H' : Hp} {d : Addr} {f : Str} {v : V} (s : Same H H1) (r : Raised H1 H' d f v) : Raised H H' d f v := ⟨s.free r.1, r.2.1, s.trans r.2.2⟩
/-! kinds of keys: ints and texts; tuples of them -/
structure Kd (κ : Type) [DecidableEq κ] where
  at_ : Hp → V → κ → Prop
  dic : List (κ × V) → HO
  get : ∀ {H : Hp} {a : Addr} {v : V} {k : κ} {kvs : List (κ × V)}, H a = some (dic kvs) → at_ H v k → DGet H a v (valV kvs k)
  put : ∀ {H : Hp} {a : Addr} {v x : V} {k : κ} {kvs : List (κ × V)}, H a = some (dic kvs) → at_ H v k → kvs.length < sizeLine → DPut H a v x (L2.upd H a (dic (putK kvs k x)))
  isd : ∀ {H : Hp} {a : Addr} {kvs : List (κ × V)}, H a = some (dic kvs) → IsD H a
  keep : ∀ {H H' : Hp} {v : V} {k : κ}, at_ H v k → (∀ b xs, H b = some (.tup xs) → H' b = some (.tup xs)) → at_ H' v k
  some_ : ∀ {H : Hp} {v : V} {k : κ}, at_ H v k → v ≠ .non
  disp : ∀ {σ : L2.St} {H : Hp} {i : Nat} {Q : VK} {v : V} {k : κ} {n : Int}, σ[i]? = some (some v) → at_ H v k → (∀ p, H p = none → Q (.ref p) (L2.upd H p (dic [(k, .int n)]))) →
    tDisp [(tVar i, tC (.int n))] σ H Q ∨ tDispT (tVar i) (tC (.int n)) σ H Q
  notLst : ∀ kvs xs, dic kvs ≠ .lst xs
  notTup : ∀ kvs xs, dic kvs ≠ .tup xs
  notExt : ∀ kvs φ, dic kvs ≠ .ext φ
def kdK : Kd Key where
  at_ := fun _ v k => v = kV k
  dic := .dK
  get := fun e h => by rw [h]; exact DGet.k e
  put := fun e h l => by rw [h]; exact DPut.k e l
  isd := fun e => .inl ⟨_, .inl e⟩
  keep := fun h _ => h
  some_ := fun {H v k} h => by rw [h]; cases k <;> exact fun z => nomatch z
  disp := fun {σ H i Q v k n} e h q => .inl fun p hp => ⟨v, e, upd_same, [(k, .int n)], by rw [h]; rfl, by show 1 ≤ 15; omega, by rw [upd_upd]; exact q p hp⟩
  notLst := fun _ _ z => nomatch z
  notTup := fun _ _ z => nomatch z
  notExt := fun _ _ z => nomatch z
def kdT : Kd (List Key) where
  at_ := fun H v k => ∃ b, v = .ref b ∧ H b = some (.tup (k.map kV))
  dic := .dT
  get := fun e ⟨b, h1, h2⟩ => by rw [h1]; exact DGet.t e h2
  put := fun e ⟨b, h1, h2⟩ l => by rw [h1]; exact DPut.t e h2 l
  isd := fun e => .inr ⟨_, .inl e⟩
  keep := fun ⟨b, h1, h2⟩ k => ⟨b, h1, k _ _ h2⟩
  some_ := fun ⟨b, h1, _⟩ => by rw [h1]; exact fun z => nomatch z
  disp := fun {σ H i Q v k n} e ⟨b, h1, h2⟩ q => .inr fun p hp => ⟨v, e, upd_same, k, b, .int n, by rw [h1], by rw [upd_ne (ne_of_none h2 hp)]; exact h2, by rw [upd_upd]; exact q p hp⟩
  notLst := fun _ _ z => nomatch z
  notTup := fun _ _ z => nomatch z
  notExt := fun _ _ z => nomatch z
section
variable {X : Cx}
theorem pe_or {e : Expr} {t u : TE} (h : PE X e t) (g : PE X e u) : PE X e (fun σ H Q => t σ H Q ∨ u σ H Q) :=
  ⟨fun pins s σ H Q I q => q.elim (h.run pins s σ H Q I) (g.run pins s σ H Q I)⟩
theorem pe_dispT {k v : Expr} {tk tv : TE} {pos : Pos} (hu : X.A.units + 1 < cLine) (hk : PE X k tk) (hv : PE X v tv) : PE X (.Dict [some k] [v] pos) (tDispT tk tv) := by
  refine ⟨fun pins s σ H Q I q => ?_⟩
  have hn := I.hok.fresh (Nat.le_refl s.heap.objs.size)
  have I1 := I.laid (a := s.heap.objs.size) (o := .dT []) (h' := s.heap.push { cls := .type "dict", data := .dict #[] }) (t' := s.toks) (fun _ _ q => Heap.get?_push_of_some _ q) (Nat.le_refl _) (dt_empty s.heap I.big)
  have hp := pps_cons (pos := pos) hk hv (pps_nil (X := X) (pos := pos))
  have hall : ([some k] : List (Option Expr)).all (·.isSome) = true := rfl
  have h0 : pairTrees [some k] [v] X.env pos ≠ [] := fun e => by
    have := pairTrees_length [some k] [v] X.env pos hall rfl
    rw [e] at this
    cases this
  have h15 : (pairTrees [some k] [v] X.env pos).length ≤ 15 := by
    rw [pairTrees_length [some k] [v] X.env pos hall rfl]
    show 1 ≤ 15
    omega
  have hz := zip_pairTrees [some k] [v] X.env pos hall rfl
  rw [PySem.arm_eval_Dict, hz, PySem.dictDisplay_pairs _ h0 (by omega)]
  refine wpAny_bind (wpAny_standAt (wpAny_bind (PySem.wpAny_subDictH (knd := tupleKind (mixKind X.prog X.w)) (show X.A.units < cLine by omega) h15 (thn (hp.run pins _ σ _ _ I1 (q _ hn)) ?_))))
  rintro ws s2 ⟨ps, H2, I2, rel, e, x, b, vx, rfl, eb, q2⟩
  cases rel with
  | @cons _ pq _ _ r0 r1 =>
    cases r1
    obtain ⟨ku, vu⟩ := pq
    obtain ⟨rk, rv⟩ := r0
    have ek : ku = Value.ref b := rk
    subst ek
    obtain ⟨z, hd, xs0, r0, dd⟩ := dt_of I2.hok e
    cases r0
    refine ⟨[(x, b, vu)], ⟨rfl, rfl, key_of I2.hok eb, trivial⟩, dd, fun h' tk' dd' hs => wpAny_pure ⟨.ref s.heap.objs.size, _, ?_, rfl, q2⟩⟩
    obtain ⟨o, es, ep, ho, h2, h3, h4, h5, h6⟩ := dd'
    have nb : b ≠ s.heap.objs.size := ne_of eb e (fun z => nomatch z)
    have new : ObjOk X.prog X.w (L2.upd H2 s.heap.objs.size (.dT [(x, vx)])) h' s.heap.objs.size (.dT [(x, vx)]) := by
      refine ⟨by rw [sizeLine_eq]; show 1 ≤ _; decide, hd, [(x, b, vu)], .cons ⟨rfl, ?_, rv⟩ .nil, o, es, ep, ho, h2, h3, h4, h6⟩
      show L2.upd H2 s.heap.objs.size (.dT [(x, vx)]) b = some (.tup (x.map kV))
      rw [upd_ne nb]
      exact eb
    exact d_write I2 (by rw [e]; exact True.intro) hs ⟨o, ho⟩ new
end
end Vf
set_option Elab.async false
set_option linter.all false
set_option maxRecDepth 100000
set_option maxHeartbeats 4000000
/-! zip of two: lists, tuples, texts in any mix -/
namespace Vf
open PySem L2 PyProof.Rows
inductive Sr where
  | l (a : Addr) | t (a : Addr) | s (z : Str)
def Sr.v : Sr → V
  | .l a => .ref a
  | .t a => .ref a
  | .s z => .str z
def Sr.at_ : Sr → Option Addr
  | .l a => some a
  | .t a => some a
  | .s _ => none
def SrI (K : PySem.W.Frag) (H : Hp) : Sr → List V → Prop
  | .l a, xs => SqL K H a xs
  | .t a, xs => SqT K H a xs
  | .s z, xs => xs = (TL.tl z).map fun c => V.str (sg c)
def SrSt : Sr → Tok → Addr → Nat → Heap → Prop
  | .l a, _, it, i, h => h.IsListIter it a i
  | .t a, _, it, i, h => h.IsTupleIter it a i
  | .s z, t, it, i, h => h.IsStrIter it (strIterType z) z t i
theorem SrI.same {K : PySem.W.Frag} {H H' : Hp} {r : Sr} {xs : List V} (s : Same H H') (h : SrI K H r xs) : SrI K H' r xs := by
  cases r with
  | l a => exact s.seq h
  | t a =>
    have h : SqT K H a xs := h
    rcases h with (h | ⟨o, h⟩) | h
    · exact .inl (.inl (s _ _ h))
    · exact .inl (.inr ⟨o, s _ _ h⟩)
    · exact .inr h
  | s z => exact h
theorem srSt_obj {r : Sr} {t : Tok} {it : Addr} {i : Nat} {h : Heap} (st : SrSt r t it i h) : ∃ o, h.get? it = some o ∧ ∀ v, o.data ≠ .cell v := by
  cases r with
  | l a => obtain ⟨o, e, _, d⟩ := st; exact ⟨o, e, fun v q => by rw [d] at q; cases q⟩
  | t a => obtain ⟨o, e, _, d⟩ := st; exact ⟨o, e, fun v q => by rw [d] at q; cases q⟩
  | s z => obtain ⟨o, e, _, d⟩ := st; exact ⟨o, e, fun v q => by rw [d] at q; cases q⟩
theorem srSt_keep {r : Sr} {t : Tok} {it : Addr} {i : Nat} {h h' : Heap} (st : SrSt r t it i h) (k : ∀ o, h.get? it = some o → h'.get? it = some o) : SrSt r t it i h' := by
  cases r with
  | l a => exact Heap.IsListIter.at st k
  | t a => obtain ⟨o, e, q⟩ := st; exact ⟨o, k o e, q⟩
  | s z => obtain ⟨o, e, q⟩ := st; exact ⟨o, k o e, q⟩
/-- what one draws of it -/
structure Dr (X : Cx) (r : Sr) (t : Tok) (it : Addr) (i : Nat) (xs : List V) (s : Shared) (n : Nat) (P : Nat → Value → Prop) (St : Nat → Heap → Prop) (fp : List Addr) : Prop where
  d : Draws X.prog X.w X.A.in1 it fp n P St
  st : St i s.heap
  n_ : n = xs.length
  p_ : ∀ j v, P j v → ∃ x, xs[j]? = some x ∧ RelV x v
  nx : ∀ h', St (i + 1) h' → SrSt r t it (i + 1) h'
  fp_ : ∀ b ∈ fp, b = it ∨ r.at_ = some b
  mem : it ∈ fp
theorem sr_draw {X : Cx} {pins : List (Addr × Obj)} {σ : L2.St} {H : Hp} {s : Shared} {r : Sr} {t : Tok} {it : Addr} {i : Nat} {xs : List V} (I : Inv X pins σ H s) (hh : X.A.handled = none) (e : SrI X.K H r xs) (st : SrSt r t it i s.heap) (na : ∀ a, r.at_ = some a → a ≠ it) :
    ∃ n P St fp, Dr X r t it i xs s n P St fp := by
  cases r with
  | l a =>
    obtain ⟨its, rv, p, _⟩ := I.list e
    refine ⟨_, _, _, _, ⟨Draws.list (prog := X.prog) (w := X.w) (A := X.A.in1) hh it a (na a rfl) its.toArray, ⟨st, p.isList⟩, by simpa using rv.length.symm, fun j v hv => ?_, fun h' q => q.1, fun b hb => ?_, by simp⟩⟩
    · have hv : its[j]? = some v := by simpa using hv
      have hj : j < xs.length := by
        have := (List.getElem?_eq_some_iff.mp hv).1
        rw [rv.length]; exact this
      obtain ⟨u, hu, ru⟩ := rv.get (List.getElem?_eq_getElem hj)
      rw [hv] at hu; cases hu
      exact ⟨_, List.getElem?_eq_getElem hj, ru⟩
    · simp at hb
      rcases hb with z | z
      · exact .inl z
      · exact .inr (by rw [z]; rfl)
  | t a =>
    obtain ⟨its, rv, p, _⟩ := I.tuple e
    refine ⟨_, _, _, _, ⟨Draws.tuple (prog := X.prog) (w := X.w) (A := X.A.in1) hh it a (na a rfl) its.toArray, ⟨st, p⟩, by simpa using rv.length.symm, fun j v hv => ?_, fun h' q => q.1, fun b hb => ?_, by simp⟩⟩
    · have hv : its[j]? = some v := by simpa using hv
      have hj : j < xs.length := by
        have := (List.getElem?_eq_some_iff.mp hv).1
        rw [rv.length]; exact this
      obtain ⟨u, hu, ru⟩ := rv.get (List.getElem?_eq_getElem hj)
      rw [hv] at hu; cases hu
      exact ⟨_, List.getElem?_eq_getElem hj, ru⟩
    · simp at hb
      rcases hb with z | z
      · exact .inl z
      · exact .inr (by rw [z]; rfl)
  | s z =>
    have e : xs = (TL.tl z).map fun c => V.str (sg c) := e
    refine ⟨_, _, _, _, ⟨Draws.text (prog := X.prog) (w := X.w) (A := X.A.in1) hh it z t, st, by rw [e, List.length_map]; exact TL.len_tl z, fun j v hv => ?_, fun h' q => q, fun b hb => ?_, by simp⟩⟩
    · obtain ⟨c, u, h1, rfl⟩ := hv
      refine ⟨.str (sg c), ?_, ⟨u, rfl⟩⟩
      have h2 : (TL.tl z)[j]? = some c := by simpa using h1
      rw [e, List.getElem?_map, h2]
      rfl
    · simp at hb
      exact .inl hb
theorem sr_inj {X : Cx} {pins : List (Addr × Obj)} {σ : L2.St} {H : Hp} {s : Shared} {r : Sr} {xs ys : List V} (I : Inv X pins σ H s) (e : SrI X.K H r xs) (e2 : SrI X.K H r ys) : xs = ys := by
  cases r with
  | l a => exact I.list_inj e e2
  | t a => exact I.tuple_inj e e2
  | s z => exact Eq.trans e (Eq.symm e2)
def Itzz (K : PySem.W.Frag) (a b : Sr) : It :=
  ⟨fun i H => ∃ xs ys, SrI K H a xs ∧ SrI K H b ys ∧ i < xs.length ∧ i < ys.length,
   fun i H v H' => ∃ T x y, v = .ref T ∧ H T = none ∧ H' = L2.upd H T (.tup [x, y]) ∧ (∀ xs, SrI K H a xs → xs[i]? = some x) ∧ (∀ ys, SrI K H b ys → ys[i]? = some y),
   fun i H => ∃ xs ys, SrI K H a xs ∧ SrI K H b ys ∧ i ≤ xs.length ∧ i ≤ ys.length ∧ (i = xs.length ∨ i = ys.length)⟩
/-- the five cells of a zip, and the two sources, apart -/
structure ZA (z TI TO i1 i2 : Addr) (a b : Sr) : Prop where
  n1 : TI ≠ z
  n2 : TO ≠ z
  n3 : TI ≠ TO
  n4 : TI ≠ i1
  n5 : TI ≠ i2
  n6 : z ≠ i1
  n7 : z ≠ i2
  n8 : TO ≠ i1
  n9 : TO ≠ i2
  n10 : i1 ≠ i2
  a_ : ∀ c, a.at_ = some c → c ≠ z ∧ c ≠ TO ∧ c ≠ i1 ∧ c ≠ i2
  b_ : ∀ c, b.at_ = some c → c ≠ z ∧ c ≠ TO ∧ c ≠ i1 ∧ c ≠ i2
theorem ZA.sep {z TI TO i1 i2 : Addr} {a b : Sr} {fp1 fp2 : List Addr} (D : ZA z TI TO i1 i2 a b) (h1 : ∀ c ∈ fp1, c = i1 ∨ a.at_ = some c) (m1 : i1 ∈ fp1) (h2 : ∀ c ∈ fp2, c = i2 ∨ b.at_ = some c) (m2 : i2 ∈ fp2) : ZipSep2 z TI TO i1 i2 fp1 fp2 := by
  refine ⟨D.n1, D.n2, D.n3, D.n4, m1, fun h => ?_, fun h => ?_, D.n5, m2, fun h => ?_, fun h => ?_, fun h => ?_, fun h => ?_⟩
  · exact (h1 _ h).elim D.n6 fun e => (D.a_ _ e).1 rfl
  · exact (h1 _ h).elim D.n8 fun e => (D.a_ _ e).2.1 rfl
  · exact (h2 _ h).elim D.n7 fun e => (D.b_ _ e).1 rfl
  · exact (h2 _ h).elim D.n9 fun e => (D.b_ _ e).2.1 rfl
  · exact (h2 _ h).elim D.n10 fun e => (D.b_ _ e).2.2.1 rfl
  · exact (h1 _ h).elim (fun q => D.n10 q.symm) fun e => (D.a_ _ e).2.2.2 rfl
theorem turn_zz {P : Program} {w : World} {K : PySem.W.Frag} {elts : List Expr} {kk : Nat} {tpos : Pos} {a b : Sr} {t1 t2 : Tok} {z TI TO i1 i2 : Addr} (D : ZA z TI TO i1 i2 a b) :
    Turn P w K (.Tuple elts kk tpos) (Itzz K a b) [z, TI, TO, i1, i2] z (fun i h => IsZip h z TI TO .none ∧ IsTupOf2 h TI (.ref i1) (.ref i2) ∧ (∃ x y, IsTupOf2 h TO x y) ∧ SrSt a t1 i1 i h ∧ SrSt b t2 i2 i h) where
  mem := by simp
  obj := fun i h st c hc => by
    obtain ⟨hz, hTI, ⟨x, y, hTO⟩, s1, s2⟩ := st
    obtain ⟨o1, e1, d1⟩ := srSt_obj s1
    obtain ⟨o2, e2, d2⟩ := srSt_obj s2
    have e' : c = z ∨ c = TI ∨ c = TO ∨ c = i1 ∨ c = i2 := by simpa using hc
    rcases e' with rfl | rfl | rfl | rfl | rfl
    · exact ⟨_, hz, fun v q => nomatch q⟩
    · exact ⟨_, hTI, fun v q => nomatch q⟩
    · exact ⟨_, hTO, fun v q => nomatch q⟩
    · exact ⟨o1, e1, d1⟩
    · exact ⟨o2, e2, d2⟩
  keep := fun i h h' st k => by
    obtain ⟨hz, hTI, ⟨x, y, hTO⟩, s1, s2⟩ := st
    exact ⟨k z (by simp) _ hz, k TI (by simp) _ hTI, ⟨x, y, k TO (by simp) _ hTO⟩, srSt_keep s1 fun o q => k i1 (by simp) o q, srSt_keep s2 fun o q => k i2 (by simp) o q⟩
  item := by
    intro X hP hw hK hc i pins s σ H E I hf st hg
    subst hP hw hK
    obtain ⟨hz, hTI, ⟨x0, y0, hTO⟩, s1, s2⟩ := st
    obtain ⟨xs, ys, ea, eb, l1, l2⟩ := hg
    have hh := I.ok.hd hc
    obtain ⟨n1, P1, St1, fp1, D1⟩ := sr_draw (t := t1) I hh ea s1 fun c e => (D.a_ c e).2.2.1
    obtain ⟨n2, P2, St2, fp2, D2⟩ := sr_draw (t := t2) I hh eb s2 fun c e => (D.b_ c e).2.2.2
    have hzl : z < s.heap.objs.size := Heap.lt_size hz
    refine wpAny_pyNext_zipD2_item (D.sep D1.fp_ D1.mem D2.fp_ D2.mem) D1.d D2.d hz hTI hTO D1.st D2.st (by rw [D1.n_]; exact l1) (by rw [D2.n_]; exact l2) fun u u2 h' tk p1 p2 z' TO' h1' h2' hT hsz hk => ?_
    obtain ⟨x, hx, ru⟩ := D1.p_ _ _ p1
    obtain ⟨y, hy, ru2⟩ := D2.p_ _ _ p2
    refine ⟨_, rfl, wpAny_letOwnedTupleGo_zip (s := { s with heap := h', toks := tk }) z' fun h'' z'' sb => ?_⟩
    have hT2 : h''.get? s.heap.objs.size = some { cls := .type "tuple", data := .seq #[u, u2] } := (sb.2 _ (Nat.ne_of_gt hzl)).trans hT
    have new : ObjOk X.prog X.w (L2.upd H s.heap.objs.size (.tup [x, y])) h'' s.heap.objs.size (.tup [x, y]) :=
      ⟨by show 2 ≤ sizeLine; decide, [u, u2], .cons ru (.cons ru2 .nil), ⟨_, hT2, rfl, _, rfl⟩⟩
    have I1 : Inv X pins σ (L2.upd H s.heap.objs.size (.tup [x, y])) { s with heap := h'', toks := tk } :=
      I.turnedNew (t' := tk) (ch := [z, TI, TO, i1, i2]) (fun c o hb q => (sb.2 c (fun q' => hb (by simp [q']))).trans (hk c o (fun q' => hb (by simp [q'])) (fun q' => hb (by simp [q'])) (fun q' => hb (by simp [q'])) (fun q' => hb (by simp [q'])) q)) hf (Nat.le_refl _) new
    have kTI : h'.get? TI = some { cls := .type "tuple", data := .seq #[.ref i1, .ref i2] } := hk _ _ D.n1 D.n3 D.n4 D.n5 hTI
    refine ⟨.ref s.heap.objs.size, _, I1, rfl, ⟨_, x, y, rfl, I.hok.fresh (Nat.le_refl _), rfl, fun l hl => by rw [sr_inj I hl ea]; exact hx, fun l hl => by rw [sr_inj I hl eb]; exact hy⟩, ⟨z'', (sb.2 _ D.n1).trans kTI, ⟨u, u2, (sb.2 _ D.n2).trans TO'⟩, srSt_keep (D1.nx _ h1') fun o q => (sb.2 _ D.n6.symm).trans q, srSt_keep (D2.nx _ h2') fun o q => (sb.2 _ D.n7.symm).trans q⟩, fun c hcm => ?_⟩
    obtain ⟨o1, e1, _⟩ := srSt_obj s1
    obtain ⟨o2, e2, _⟩ := srSt_obj s2
    have hlt : c < s.heap.objs.size := by
      have e' : c = z ∨ c = TI ∨ c = TO ∨ c = i1 ∨ c = i2 := by simpa using hcm
      rcases e' with rfl | rfl | rfl | rfl | rfl
      · exact hzl
      · exact Heap.lt_size hTI
      · exact Heap.lt_size hTO
      · exact Heap.lt_size e1
      · exact Heap.lt_size e2
    rw [upd_ne (Nat.ne_of_lt hlt)]
    exact (hf c hcm).1
  done := by
    intro X hP hw hK hc i pins s σ H E I hf st hg
    subst hP hw hK
    obtain ⟨hz, hTI, ⟨x0, y0, hTO⟩, s1, s2⟩ := st
    obtain ⟨xs, ys, ea, eb, l1, l2, hend⟩ := hg
    have hh := I.ok.hd hc
    obtain ⟨n1, P1, St1, fp1, D1⟩ := sr_draw (t := t1) I hh ea s1 fun c e => (D.a_ c e).2.2.1
    obtain ⟨n2, P2, St2, fp2, D2⟩ := sr_draw (t := t2) I hh eb s2 fun c e => (D.b_ c e).2.2.2
    refine wpAny_pyNext_zipD2_end (D.sep D1.fp_ D1.mem D2.fp_ D2.mem) D1.d D2.d hz hTI hTO D1.st D2.st (by rw [D1.n_]; exact l1) (by rw [D2.n_]; exact l2) (by rw [D1.n_, D2.n_]; exact hend) fun h' tk hk => ⟨rfl, ?_⟩
    exact I.turnedL (t' := tk) (ch := [z, TI, TO, i1, i2]) (fun c o hb q => hk c o (fun q' => hb (by simp [q'])) (fun q' => hb (by simp [q'])) (fun q' => hb (by simp [q'])) (fun q' => hb (by simp [q'])) q) hf
  self := fun A i s Q E st h => wpAny_pyIter_zip st.1 h
def iZz (K : PySem.W.Frag) (ta : TA) : TI := fun σ H R => ta σ H fun vs H1 => ∃ a b xs ys, vs = [a.v, b.v] ∧ SrI K H1 a xs ∧ SrI K H1 b ys ∧ R (Itzz K a b) H1
theorem sr_begin {X : Cx} {pins : List (Addr × Obj)} {σ : L2.St} {H : Hp} {s : Shared} {r : Sr} {xs : List V} {u : Value} (I : Inv X pins σ H s) (e : SrI X.K H r xs) (ru : RelV r.v u) :
    ∃ (o : Obj) (Hq : Heap → Prop) (t : Tok), Begins u o Hq ∧ Hq s.heap ∧ (∀ it h, h.get? it = some o → SrSt r t it 0 h) ∧ ∀ a, r.at_ = some a → a < s.heap.objs.size := by
  cases r with
  | l a =>
    obtain ⟨its, rv, p, _⟩ := I.list e
    obtain rfl : u = Value.ref a := ru
    refine ⟨_, _, 0, begins_list a its.toArray, p.isList, fun it h q => ⟨_, q, rfl, rfl⟩, fun b hb => ?_⟩
    cases hb
    exact p.lt
  | t a =>
    obtain ⟨its, rv, p, _⟩ := I.tuple e
    obtain rfl : u = Value.ref a := ru
    refine ⟨_, _, 0, begins_tuple a its.toArray, p, fun it h q => ⟨_, q, rfl, rfl⟩, fun b hb => ?_⟩
    cases hb
    exact p.lt
  | s z =>
    obtain ⟨t, rfl⟩ := ru
    exact ⟨_, _, t, begins_text z t, trivial, fun it h q => ⟨_, q, rfl, rfl⟩, fun b hb => nomatch hb⟩
theorem pi_zz {X : Cx} {e e2 : Expr} {ta : TA} {p pos tpos : Pos} {elts : List Expr} {kk : Nat} (hg : Gl X "zip") (hm : X.mg "zip" = none) (ha : PA X [e, e2] ta)
    (hs : starEach [e, e2] X.env = (false, eval e X.env) :: starEach [e2] X.env := by rfl) (hpl : (backTo pos (starEach [e2] X.env)).any (·.1) = false := by rfl) :
    PI X (.Tuple elts kk tpos) (.Call (.Name "zip" p) [e, e2] [] pos) (iZz X.K ta) := by
  refine ⟨fun pins s σ H R I h => ?_⟩
  refine Call_ (ld_blt I hg hm PyProof.Rows.boot_zip (PyProof.Rows.callWith_type1 (thn (ha.run pos pins s σ H _ I h) fun us s1 ⟨vs, H1, I1, r1, q1⟩ => ?_) hs hpl))
  obtain ⟨a, b, xs, ys, ex, ea, eb, q⟩ := q1
  subst ex
  cases r1 with
  | @cons _ u _ _ r rr =>
    cases rr with
    | @cons _ u2 _ _ r' rr =>
      cases rr
      obtain ⟨o1, H1q, t1, B1, h1, k1, la⟩ := sr_begin I1 ea r
      obtain ⟨o2, H2q, t2, B2, h2, k2, lb⟩ := sr_begin I1 eb r'
      refine zip_begins2 B1 B2 h1 h2 fun h' hz hTI hTO g1 g2 hsz hk => wpAny_pyIter_zip hz ?_
      have I2 : Inv X pins σ H1 { s1 with heap := h' } := I1.kept (t' := s1.toks) hk
      generalize hN : s1.heap.objs.size = N at *
      have D : ZA (N + 4) (N + 2) (N + 3) N (N + 1) a b := ⟨by simp, by simp, by simp, by simp, by simp, by simp, by simp, by simp, by simp, by simp,
        fun c e => by have := la c e; exact ⟨by intro z; subst z; exact absurd this (by simp), by intro z; subst z; exact absurd this (by simp), by intro z; subst z; exact absurd this (by simp), by intro z; subst z; exact absurd this (by simp)⟩,
        fun c e => by have := lb c e; exact ⟨by intro z; subst z; exact absurd this (by simp), by intro z; subst z; exact absurd this (by simp), by intro z; subst z; exact absurd this (by simp), by intro z; subst z; exact absurd this (by simp)⟩⟩
      refine ⟨N + 4, [N + 4, N + 2, N + 3, N, N + 1], _, _, H1, rfl, I2, turn_zz (t1 := t1) (t2 := t2) D, ⟨hz, hTI, ⟨_, _, hTO⟩, k1 _ _ g1, k2 _ _ g2⟩, fun c hcm => ?_, q⟩
      have hle : s1.heap.objs.size ≤ c := by
        rw [hN]
        have e' : c = N + 4 ∨ c = N + 2 ∨ c = N + 3 ∨ c = N ∨ c = N + 1 := by simpa using hcm
        rcases e' with rfl | rfl | rfl | rfl | rfl <;> simp
      exact I1.fpOk hle (I1.hok.fresh hle)
/-- as a walk: both stand still -/
theorem walk_zz {K : PySem.W.Frag} {a b : Sr} {xs ys : List V} {n : Nat} (hn : n = min xs.length ys.length) :
    Walk (Itzz K a b) n (fun H => SrI K H a xs ∧ SrI K H b ys) (fun i H v H' => ∃ T x y, v = .ref T ∧ H T = none ∧ H' = L2.upd H T (.tup [x, y]) ∧ xs[i]? = some x ∧ ys[i]? = some y) :=
  ⟨fun i H hi g => ⟨xs, ys, g.1, g.2, by omega, by omega⟩, fun H g => ⟨xs, ys, g.1, g.2, by omega, by omega, by omega⟩, fun i H v H' hi g y => by
    obtain ⟨T, x, y, e1, e2, e3, h1, h2⟩ := y
    exact ⟨T, x, y, e1, e2, e3, h1 _ g.1, h2 _ g.2⟩⟩
end Vf
set_option Elab.async false
set_option linter.all false
set_option maxRecDepth 100000
set_option maxHeartbeats 4000000
/-! what stays where functions are made and cells are shown -/
namespace Vf
open PySem L2 PyProof.Rows NdefX LamX
theorem same_shw {cs : Cs} {H : Hp} (hn : ∀ c o, cs.lookup c = some o → H c = none) : Same H (shw cs H) := fun b u e => by
  cases q : cs.lookup b with
  | some y => rw [hn b y q] at e; cases e
  | none => rw [shw_out q]; exact e
theorem same_hid {cs : Cs} {H1 H2 : Hp} (hn : ∀ c o, cs.lookup c = some o → H1 c = none) (s : Same (shw cs H1) H2) : Same H1 (hid cs H2) := fun b u e => by
  cases q : cs.lookup b with
  | some y => rw [hn b y q] at e; cases e
  | none =>
    rw [hid_out q]
    exact s b u (by rw [shw_out q]; exact e)
theorem held_same {cs : Cs} {H1 H2 : Hp} (s : Same (shw cs H1) H2) : HeldC cs H2 := fun c o e => s _ _ (shw_in e)
theorem same_up {cs : Cs} {H H' : Hp} (hc : HeldC cs H) (s : Same (hid cs H) H') : Same H (shw cs H') := fun b u e => by
  cases q : cs.lookup b with
  | some y =>
    rw [hc b y q] at e
    rw [shw_in q]; exact e
  | none =>
    rw [shw_out q]
    exact s b u (by rw [hid_out q]; exact e)
/-- what is no cell is not hidden -/
theorem hid_keep {cs : Cs} {H : Hp} {b : Addr} {u : HO} (hc : HeldC cs H) (e : H b = some u) (n : ∀ φ, u ≠ .ext φ) : hid cs H b = some u := by
  rw [hid_out (hc.out e fun x z => n _ z)]; exact e
theorem shw_keep {cs : Cs} {H : Hp} {b : Addr} {u : HO} (hn : ∀ c o, cs.lookup c = some o → H c = none) (e : H b = some u) : shw cs H b = some u := same_shw hn _ _ e
theorem hid_shw {cs : Cs} {H : Hp} (hn : ∀ c o, cs.lookup c = some o → H c = none) : hid cs (shw cs H) = H := by
  funext b
  cases q : cs.lookup b with
  | some y => rw [hid_in q, hn b y q]
  | none => rw [hid_out q, shw_out q]
/-- it stays true where all stays but tables -/
def Stab (S : Hp → Prop) : Prop := ∀ H H' : Hp, S H → ExtN H H' → S H'
theorem Stab.same {S : Hp → Prop} (h : Stab S) {H H' : Hp} (s : Same H H') (q : S H) : S H' := h H H' q (ExtN.of fun b o e => s b o e)
theorem Stab.and {S S' : Hp → Prop} (h : Stab S) (h' : Stab S') : Stab fun H => S H ∧ S' H := fun H H' q k => ⟨h H H' q.1 k, h' H H' q.2 k⟩
theorem Stab.hid {S : Hp → Prop} (h : Stab S) (cs : Cs) : Stab fun H => S (Vf.hid cs H) := fun H H' q k => h _ _ q fun b o e n => by
  obtain ⟨q1, q2⟩ := hid_some e
  rw [hid_out q1]; exact k b o q2 n
theorem stab_heldF (f : Addr) (F : NF) (cs : Cs) : Stab (HeldF f F cs) := fun H H' q k => ⟨k _ _ q.fn (fun _ z => nomatch z), k _ _ q.code (fun _ z => nomatch z), fun c o e => k _ _ (q.cells c o e) (fun _ z => nomatch z)⟩
theorem stab_heldL (f : Addr) (F : NF) (e : Expr) (cs : Cs) : Stab (HeldL f F e cs) := fun H H' q k => ⟨k _ _ q.fn (fun _ z => nomatch z), k _ _ q.code (fun _ z => nomatch z), fun c o e => k _ _ (q.cells c o e) (fun _ z => nomatch z)⟩
theorem stab_true : Stab fun _ => True := fun _ _ _ _ => trivial
theorem stab_at (a : Addr) (o : HO) (n : ∀ ps, o ≠ .tbl ps) : Stab fun H => H a = some o := fun H H' q k => k a o q n
/-- all stays but the tables of code objects, and these stay tables -/
structure SameT (T : List NTab) (H H' : Hp) : Prop where
  ext : ExtN H H'
  back : ∀ b, H' b = none → H b = none
  tab : TabsN T H'
theorem SameT.of {T : List NTab} {H H' : Hp} (s : Same H H') (t : TabsN T H) : SameT T H H' := ⟨fun b o e _ => s b o e, fun b e => s.free e, t.ext fun b o e => s b o e⟩
theorem SameT.trans {T : List NTab} {H H1 H2 : Hp} (a : SameT T H H1) (b : SameT T H1 H2) : SameT T H H2 := ⟨a.ext.trans b.ext, fun c e => a.back c (b.back c e), b.tab⟩
theorem SameT.stab {T : List NTab} {H H' : Hp} {S : Hp → Prop} (s : SameT T H H') (h : Stab S) (q : S H) : S H' := h H H' q s.ext
theorem SameT.at_ {T : List NTab} {H H' : Hp} {κ : Type} [DecidableEq κ] {kd : Kd κ} {v : V} {k : κ} (s : SameT T H H') (h : kd.at_ H v k) : kd.at_ H' v k := kd.keep h fun b xs e => s.ext _ _ e fun _ z => nomatch z
theorem SameT.kl {T : List NTab} {H H' : Hp} (s : SameT T H H') : Kl H H' := fun b o e d => s.ext b o e fun ps z => by rw [z] at d; exact d
theorem kd_hid {κ : Type} [DecidableEq κ] {kd : Kd κ} {cs : Cs} {H : Hp} {v : V} {k : κ} (hc : HeldC cs H) (h : kd.at_ H v k) : kd.at_ (hid cs H) v k := kd.keep h fun b xs e => hid_keep hc e fun _ z => nomatch z
theorem kd_shw {κ : Type} [DecidableEq κ] {kd : Kd κ} {cs : Cs} {H : Hp} {v : V} {k : κ} (hn : ∀ c o, cs.lookup c = some o → H c = none) (h : kd.at_ H v k) : kd.at_ (shw cs H) v k := kd.keep h fun b xs e => shw_keep hn e
/-- a cell is no code object -/
theorem cellX_code {c : Addr} {o : Obj} {q : Str} {v : Option Value} (hd : o.data = .cell v) : CellX c o ≠ CodeO c q := fun z => by
  unfold CellX CodeO at z
  have z2 := HO.ext.inj z
  have e : ({ objs := Array.replicate (c + 1) o } : Heap).get? c = some o := by
    unfold Heap.get?
    have : (Array.replicate (c + 1) o)[c]? = some o := by simp
    rw [this]
    obtain ⟨a, b, d, sl⟩ := o
    have hd : d = .cell v := hd
    subst hd
    rfl
  have h1 := congrFun z2 ({ objs := Array.replicate (c + 1) o } : Heap)
  have h2 : ∃ (oc : Obj) (vs : Array Value) (t : Tok), ({ objs := Array.replicate (c + 1) o } : Heap).get? c = some oc ∧ oc.data = .fields vs ∧ vs[1]? = some (.str q t) := by
    rw [← h1]; exact e
  obtain ⟨oc, vs, t, a1, a2, a3⟩ := h2
  rw [e] at a1
  cases a1
  rw [hd] at a2
  cases a2
def CellsData (cs : Cs) : Prop := ∀ c o, cs.lookup c = some o → ∃ v, o.data = .cell v
theorem CapX.data {X : Cx} {σ : L2.St} {cs : Cs} (h : CapX X σ cs) : CellsData cs := fun c o e => (h.dom c o e).1
theorem tabs_hid {T : List NTab} {cs : Cs} {H : Hp} (hd : CellsData cs) (hc : HeldC cs H) (t : TabsN T H) : TabsN T (hid cs H) := fun p hp => by
  obtain ⟨ps, h1, h2, h3⟩ := t p hp
  refine ⟨ps, hid_keep hc h1 (fun _ z => nomatch z), h2, fun pos cv e => ?_⟩
  obtain ⟨c, e1, e2⟩ := h3 pos cv e
  refine ⟨c, e1, ?_⟩
  cases q : cs.lookup c with
  | none => rw [hid_out q]; exact e2
  | some o =>
    obtain ⟨v, hv⟩ := hd c o q
    rw [hc c o q] at e2
    exact absurd (Option.some.inj e2) (cellX_code hv)
theorem sameT_hid {T : List NTab} {cs : Cs} {H1 H2 : Hp} (hd : CellsData cs) (hn : ∀ c o, cs.lookup c = some o → H1 c = none) (s : SameT T (shw cs H1) H2) : HeldC cs H2 ∧ SameT T H1 (hid cs H2) := by
  have hh : HeldC cs H2 := fun c o e => s.ext _ _ (shw_in e) fun _ z => nomatch z
  refine ⟨hh, fun b u e n => ?_, fun b e => ?_, tabs_hid hd hh s.tab⟩
  · cases q : cs.lookup b with
    | some y => rw [hn b y q] at e; cases e
    | none =>
      rw [hid_out q]
      exact s.ext b u (by rw [shw_out q]; exact e) n
  · cases q : cs.lookup b with
    | some y => exact hn b y q
    | none =>
      rw [hid_out q] at e
      have := s.back b e
      rw [shw_out q] at this
      exact this
theorem kl_hid {cs : Cs} {H : Hp} (hc : HeldC cs H) : Kl H (hid cs H) := fun b o e d => hid_keep hc e fun φ z => by rw [z] at d; exact d
/-- all that the nested one captures are cells of the def -/
def cellsB (sc nsc : Scope) : Bool := nsc.names.all fun y => !decide (y.2 = .free) || decide (sc.names.lookup y.1 = some .cell)
theorem cells_free {sc nsc : Scope} (h : cellsB sc nsc = true) : ∀ y ∈ nsc.names, y.2 = .free → sc.names.lookup y.1 = some .cell := fun y hy e => by
  have := List.all_eq_true.mp h y hy
  rw [e] at this
  simpa using this
theorem tup_hid {cs : Cs} {H : Hp} {b : Addr} {xs : List V} (hc : HeldC cs H) (e : H b = some (.tup xs)) : hid cs H b = some (.tup xs) := hid_keep hc e fun _ z => nomatch z
theorem lst_hid {cs : Cs} {H : Hp} {b : Addr} {xs : List V} (hc : HeldC cs H) (e : H b = some (.lst xs)) : hid cs H b = some (.lst xs) := hid_keep hc e fun _ z => nomatch z
def Forall2 {α β : Type} (R : α → β → Prop) (xs : List α) (ys : List β) : Prop := xs.length = ys.length ∧ ∀ (i : Nat) (x : α) (y : β), xs[i]? = some x → ys[i]? = some y → R x y
theorem Forall2.snoc {α β : Type} {R : α → β → Prop} {xs : List α} {ys : List β} {x : α} {y : β} (h : Forall2 R xs ys) (g : R x y) : Forall2 R (xs ++ [x]) (ys ++ [y]) := by
  obtain ⟨h1, h2⟩ := h
  refine ⟨by simp [h1], fun i a b e1 e2 => ?_⟩
  by_cases hi : i < xs.length
  · rw [List.getElem?_append_left hi] at e1
    rw [List.getElem?_append_left (by omega)] at e2
    exact h2 i a b e1 e2
  · rw [List.getElem?_append_right (by omega)] at e1
    rw [List.getElem?_append_right (by omega)] at e2
    have : i - xs.length = 0 := by
      cases q : i - xs.length with
      | zero => rfl
      | succ n => rw [q] at e1; cases e1
    rw [this] at e1
    have h3 : i - ys.length = 0 := by omega
    rw [h3] at e2
    cases e1; cases e2
    exact g
theorem Forall2.imp {α β : Type} {R S : α → β → Prop} {xs : List α} {ys : List β} (h : Forall2 R xs ys) (g : ∀ x y, x ∈ xs → R x y → S x y) : Forall2 S xs ys := ⟨h.1, fun i x y e1 e2 => g x y (List.mem_of_getElem? e1) (h.2 i x y e1 e2)⟩
theorem Forall2.get {α β : Type} {R : α → β → Prop} {xs : List α} {ys : List β} (h : Forall2 R xs ys) {i : Nat} {y : β} (e : ys[i]? = some y) : ∃ x, xs[i]? = some x ∧ R x y := by
  have hi : i < xs.length := by rw [h.1]; exact (List.getElem?_eq_some_iff.mp e).1
  exact ⟨_, List.getElem?_eq_getElem hi, h.2 i _ y (List.getElem?_eq_getElem hi) e⟩
end Vf
set_option Elab.async false
set_option linter.all false
set_option maxRecDepth 100000
set_option maxHeartbeats 4000000
/-! walks of a column over a code's rows -/
namespace Vf
open PySem L2 PyProof.Rows
theorem take_more {α : Type} {l : List α} {i : Nat} (h : i < l.length) : l.take (i + 1) = l.take i ++ [l[i]] := by
  rw [List.take_add_one, List.getElem?_eq_getElem h]; rfl
/-- what a column leaves: the state and the bits, by the rows -/
def stepR (rs : List Row) (z : List Nat) (s : Int × Int) (c : Nat) : Int × Int :=
  let gb := ((rs.getD s.1.toNat []).getD (z.idxOf c) (0, 0))
  (gb.1, s.2 + gb.2)
def walkR (rs : List Row) (z : List Nat) (s : Int) (y : List Nat) : Int × Int := y.foldl (stepR rs z) (s, 0)
theorem walkR_more {rs : List Row} {z y : List Nat} {s : Int} {i : Nat} (h : i < y.length) : walkR rs z s (y.take (i + 1)) = stepR rs z (walkR rs z s (y.take i)) y[i] := by
  unfold walkR
  rw [take_more h, List.foldl_append]
  rfl
/-- states stay states, bits grow -/
structure GoodS (m : Nat) (rs : List Row) : Prop where
  row : ∀ r ∈ rs, r.length = m ∧ ∀ gb ∈ r, 0 ≤ gb.1 ∧ gb.1 < rs.length
theorem Good.s {m : Nat} {rs : List Row} {es : List Int} (g : Good m rs es) : GoodS m rs := ⟨fun r hr => ⟨(g.row r hr).1, fun gb h => ⟨((g.row r hr).2 gb h).1, ((g.row r hr).2 gb h).2.1⟩⟩⟩
theorem at_row {m : Nat} {rs : List Row} (g : GoodS m rs) {s : Int} {j : Nat} (h0 : 0 ≤ s) (h1 : s < rs.length) (hj : j < m) :
    ∃ (h : s.toNat < rs.length) (h' : j < rs[s.toNat].length), (rs.getD s.toNat []).getD j (0, 0) = rs[s.toNat][j] ∧ 0 ≤ (rs[s.toNat][j]).1 ∧ (rs[s.toNat][j]).1 < rs.length := by
  have h : s.toNat < rs.length := by omega
  have hr := g.row rs[s.toNat] (List.getElem_mem h)
  have h' : j < rs[s.toNat].length := by rw [hr.1]; exact hj
  refine ⟨h, h', ?_, hr.2 _ (List.getElem_mem h')⟩
  rw [List.getD_eq_getElem?_getD, List.getD_eq_getElem?_getD, List.getElem?_eq_getElem h, Option.getD_some, List.getElem?_eq_getElem h', Option.getD_some]
theorem idx_lt {z : List Nat} {c : Nat} (h : c ∈ z) : z.idxOf c < z.length := List.idxOf_lt_length_iff.mpr h
theorem walkR_ok {m : Nat} {rs : List Row} {z y : List Nat} {s : Int} (g : GoodS m rs) (hz : z.length = m) (h0 : 0 ≤ s) (h1 : s < rs.length) (hy : ∀ c ∈ y, c ∈ z) : ∀ i, i ≤ y.length → 0 ≤ (walkR rs z s (y.take i)).1 ∧ (walkR rs z s (y.take i)).1 < rs.length
  | 0, _ => by rw [List.take_zero]; exact ⟨h0, h1⟩
  | i + 1, hi => by
    have ih := walkR_ok (y := y) g hz h0 h1 hy i (by omega)
    have hi' : i < y.length := by omega
    rw [walkR_more hi']
    have hc : z.idxOf y[i] < m := by rw [← hz]; exact idx_lt (hy _ (List.getElem_mem hi'))
    obtain ⟨h, h', e, a, b⟩ := at_row g ih.1 ih.2 hc
    unfold stepR
    simp only [e]
    exact ⟨a, b⟩
/-- a column's length, by the rows and the ends -/
def lenR (rs : List Row) (es : List Int) (z : List Nat) (y : List Nat) : Int := (walkR rs z 0 y).2 + es.getD (walkR rs z 0 y).1.toNat 0
end Vf
set_option Elab.async false
set_option linter.all false
set_option maxRecDepth 100000
set_option maxHeartbeats 4000000
namespace Vf
open PySem L2 PyProof.Rows
structure TxtE (K : PySem.W.Frag) (mg : Str → Option Value) (B CT fT : Addr) : Prop where
  len : mg "len" = none
  base : BaseT K mg "CodeError" B
  tm : ErrT K mg "TooMany" "what" CT fT
section
variable {P : Program} {w : World} {K : PySem.W.Frag} {mg : Str → Option Value} {base : Heap}
abbrev s_TooMany___init__ : Stmt := inClass (top 4) 0
abbrev N_TooMany___init__ : List Str := ["self", "what"]
abbrev P_TooMany___init__ : List Str := ["self", "what"]
theorem sc_TooMany___init__ : FnScope N_TooMany___init__ P_TooMany___init__ (defScope s_TooMany___init__) := ⟨rfl, rfl, rfl, by decide +kernel, rfl, by decide +kernel, by decide +kernel⟩

theorem ok_tm {f B C fI : Addr} {fd : FuncData} (F : Fun K "__init__" "TooMany.__init__" s_TooMany___init__ f fd) (Tb : BaseT K mg "CodeError" B) (T : ErrT K mg "TooMany" "what" C fI) : FnOk P w K mg base CX0 1 f fd P_TooMany___init__ (spErr C "what") := by
  refine F.ok sc_TooMany___init__ (fun vs H Q E h => ?_) (fun cdv A outer s H vs Q E hr h => ?_)
  · obtain ⟨a, v, rfl, _⟩ := h
    rfl
  · obtain ⟨a, v, rfl, ha, k⟩ := h
    refine ⟨_, pss_cons (ps_expr (pe_clsinit Tb (by rfl) (pa_cons (pv 0) (pa_cons pe_str pa_nil)))) (pss_one (ps_ost (pv 0) (pv 1))), ?_⟩
    refine ⟨_, rfl, a, C, _, rfl, by show 1 ≤ 1000; decide, T.oex, ha, ?_⟩
    exact ⟨_, rfl, _, rfl, a, C, rfl, T.oex, T.nf, Or.inl ⟨ha, fun d h1 h2 => k d h1 h2⟩⟩
/-- one letter on: the key behind -/
def spStep {κ : Type} [DecidableEq κ] (kd : Kd κ) (st : κ → Nat → κ) (Dm : κ → Prop) (z : Str) : Sp := fun vs H Q _ => ∃ (v : V) (k : κ) (c : Nat), vs = [v, .str (sg c)] ∧ kd.at_ H v k ∧ Dm k ∧ c ∈ TL.tl z ∧
  ∀ v' H', Same H H' → kd.at_ H' v' (st k c) → Q v' H'
def Explored {κ : Type} [DecidableEq κ] (kd : Kd κ) (H : Hp) (t : Addr) (ks : List κ) (rows : List (List Nat)) : Prop :=
  ∃ (M R : Addr) (vs : List V) (rs : List Addr), H t = some (.tup [.ref M, .ref R]) ∧ H M = some (.lst vs) ∧ Forall2 (kd.at_ H) vs ks ∧ H R = some (.lst (rs.map V.ref)) ∧
    Forall2 (fun (r : Addr) (row : List Nat) => H r = some (.lst (row.map fun (n : Nat) => V.int (n : Int)))) rs rows
def spExpl (P : Program) (w : World) (K : PySem.W.Frag) (mg : Str → Option Value) (base : Heap) (CT : Addr) {κ : Type} [DecidableEq κ] (kd : Kd κ) : Sp := fun vs H Q E => ∃ (z : Str) (v0 : V) (f : Addr) (most : Nat) (s0 : κ) (st : κ → Nat → κ) (Dm : κ → Prop) (S : Hp → Prop),
  vs = [.str z, v0, .ref f, .int most] ∧ kd.at_ H v0 s0 ∧ Dm s0 ∧ (∀ k c, Dm k → c ∈ TL.tl z → Dm (st k c)) ∧ S H ∧ Stab S ∧ FV P w K mg base CX0 8 f S (spStep kd st Dm z) ∧ most ≤ 100 ∧ z.length ≤ 26 ∧
  ((turns st (TL.tl z) s0 most).1.length ≤ most → ∀ t H', Same H H' → Explored kd H' t (turns st (TL.tl z) s0 most).1 (turns st (TL.tl z) s0 most).2 → Q (.ref t) H') ∧
  (most < (turns st (TL.tl z) s0 most).1.length → ∀ d H', Raised H H' d "what" (.str "states") → E (.ref CT) (some d) H')
structure St {κ : Type} [DecidableEq κ] (st : κ → Nat → κ) (L : List Nat) (Dm : κ → Prop) (kd : Kd κ) (H : Hp) (M Nd R : Addr) (H1 : Hp) (ks : List κ) (rows : List (List Nat)) (vs : List V) (rs : List Addr) : Prop where
  mem : H1 M = some (.lst vs)
  at_ : Forall2 (kd.at_ H1) vs ks
  num : H1 Nd = some (kd.dic (nums ks))
  row : H1 R = some (.lst (rs.map V.ref))
  rows : Forall2 (fun (r : Addr) (row : List Nat) => H1 r = some (.lst (row.map fun (n : Nat) => V.int (n : Int)))) rs rows
  same : Same H H1
  far : ∀ r ∈ rs, r ≠ M ∧ r ≠ Nd ∧ r ≠ R
  dm : ∀ k ∈ ks, Dm k
section
variable {κ : Type} [DecidableEq κ] {st : κ → Nat → κ} {L : List Nat} {Dm : κ → Prop} {kd : Kd κ} {H H1 H2 : Hp} {M Nd R : Addr} {ks : List κ} {rows : List (List Nat)} {vs : List V} {rs : List Addr}
theorem St.sm (W : St st L Dm kd H M Nd R H1 ks rows vs rs) (s : Same H1 H2) : St st L Dm kd H M Nd R H2 ks rows vs rs :=
  ⟨s _ _ W.mem, W.at_.imp fun x y _ h => kd.keep h fun b xs e => s _ _ e, s _ _ W.num, s _ _ W.row, W.rows.imp fun x y _ h => s _ _ h, W.same.trans s, W.far, W.dm⟩
theorem upd_tup {a : Addr} {o o' : HO} (h : H1 a = some o) (n : ∀ xs, o ≠ .tup xs) : ∀ b xs, H1 b = some (.tup xs) → L2.upd H1 a o' b = some (.tup xs) := fun b xs e => by
  rw [upd_ne (ne_of e h (fun z => n xs z.symm))]
  exact e
theorem St.add (W : St st L Dm kd H M Nd R H1 ks rows vs rs) (n1 : Nd ≠ M) (n2 : R ≠ Nd) (n3 : R ≠ M) (hM : H M = none) (hN : H Nd = none) {v : V} {k : κ} (ha : kd.at_ H1 v k) (hn : k ∉ ks) (hd : Dm k) :
    St st L Dm kd H M Nd R (L2.upd (L2.upd H1 Nd (kd.dic (putK (nums ks) k (.int (ks.length : Int))))) M (.lst (vs ++ [v]))) (ks ++ [k]) rows (vs ++ [v]) rs := by
  have t1 : ∀ b xs, H1 b = some (.tup xs) → L2.upd (L2.upd H1 Nd (kd.dic (putK (nums ks) k (.int (ks.length : Int))))) M (.lst (vs ++ [v])) b = some (.tup xs) := fun b xs e => by
    rw [upd_ne (ne_of e W.mem (fun z => nomatch z)), upd_ne (ne_of e W.num (fun z => kd.notTup _ _ z.symm))]
    exact e
  refine ⟨upd_same, (W.at_.imp fun x y _ h => kd.keep h t1).snoc (kd.keep ha t1), ?_, ?_, W.rows.imp fun x y hx h => ?_, (W.same.put hN).put hM, W.far, fun q hq => ?_⟩
  · rw [upd_ne n1, upd_same, putK_nums hn]
  · rw [upd_ne n3, upd_ne n2]; exact W.row
  · rw [upd_ne (W.far x hx).1, upd_ne (W.far x hx).2.1]; exact h
  · rcases List.mem_append.mp hq with h | h
    · exact W.dm q h
    · rw [List.mem_singleton.mp h]; exact hd
theorem St.addRow (W : St st L Dm kd H M Nd R H1 ks rows vs rs) (n2 : R ≠ Nd) (n3 : R ≠ M) (hR : H R = none) {r : Addr} {row : List Nat} (hr : H1 r = some (.lst (row.map fun (n : Nat) => V.int (n : Int)))) (f : r ≠ M ∧ r ≠ Nd ∧ r ≠ R) :
    St st L Dm kd H M Nd R (L2.upd H1 R (.lst (rs.map V.ref ++ [.ref r]))) ks (rows ++ [row]) vs (rs ++ [r]) := by
  refine ⟨by rw [upd_ne n3.symm]; exact W.mem, W.at_.imp fun x y _ h => kd.keep h (upd_tup W.row fun _ z => nomatch z), by rw [upd_ne n2.symm]; exact W.num, by rw [upd_same, List.map_append]; rfl,
    (W.rows.imp fun x y hx h => ?_).snoc ?_, W.same.put hR, fun q hq => ?_, W.dm⟩
  · rw [upd_ne (W.far x hx).2.2]; exact h
  · rw [upd_ne f.2.2]; exact hr
  · rcases List.mem_append.mp hq with h | h
    · exact W.far q h
    · rw [List.mem_singleton.mp h]; exact f
end
abbrev s_explored : Stmt := top 9
abbrev N_explored : List Str := ["values", "start", "step", "most", "memories", "numbers", "rows", "row", "value", "memory"]
abbrev P_explored : List Str := ["values", "start", "step", "most"]
theorem sc_explored : FnScope N_explored P_explored (defScope s_explored) := ⟨rfl, rfl, rfl, by decide +kernel, rfl, by decide +kernel, by decide +kernel⟩

theorem ok_expl {κ : Type} [DecidableEq κ] (kd : Kd κ) {f B CT fT : Addr} {fd fdT : FuncData} (F : Fun K "explored" "explored" s_explored f fd) (T : TxtE K mg B CT fT) (FT : Fun K "__init__" "TooMany.__init__" s_TooMany___init__ fT fdT) (bT : Binds K fdT P_TooMany___init__ []) :
    FnOk P w K mg base (L2.CX P w) 9 f fd P_explored (spExpl P w K mg base CT kd) := by
  have GT : FnOk P w K mg base CX0 1 fT fdT P_TooMany___init__ (spErr CT "what") := ok_tm FT T.base T.tm
  refine F.okX sc_explored (fun vs H Q E h => ?_) (fun cdv A outer s H vs Q E hr h => ?_)
  · obtain ⟨z, v0, f, most, s0, st, Dm, S, rfl, _⟩ := h
    rfl
  · obtain ⟨z, v0, f, most, s0, st, Dm, S, rfl, h0, hD0, hD, hS, hst, FS, hm, hz, kq, ke⟩ := h
    have hu := hu_of hr
    refine ⟨_, (pss_cons (ps_set (i := 4) sc_explored.nd rfl (Or.inl rfl) (pe_lst (pa_cons (pv 1) pa_nil)))
      (pss_cons (ps_set (i := 5) sc_explored.nd rfl (Or.inl rfl) (pe_or (pe_disp (pps_cons (pv 1) pe_int pps_nil) (by rfl) (by rfl) (fun z => by cases z) (by decide)) (pe_dispT hu (pv 1) pe_int)))
      (pss_cons (ps_set (i := 6) sc_explored.nd rfl (Or.inl rfl) (pe_lst pa_nil))
      (pss_cons (ps_while (passes_of rfl) (pt_cmpR op_lt (pe_callB call_len (by rfl) T.len PySem.boot_len (pa_cons (pv 6) pa_nil)) (pe_callB call_len (by rfl) T.len PySem.boot_len (pa_cons (pv 4) pa_nil)) (nomark _)) (pss_cons (ps_set (i := 7) sc_explored.nd rfl (Or.inl rfl) (pe_lst pa_nil))
      (pss_cons (ps_for (passes_of rfl) rfl (pi_str (pv 0)) (pg_name (i := 8) sc_explored.nd rfl (Or.inl rfl)) (pss_cons (ps_set (i := 9) sc_explored.nd rfl (Or.inl rfl) (pe_callV (i := 2) FS (hr.mono (by decide)) pass0 rfl (Or.inl rfl) (pa_cons (pe_ix ix_list (pv 4) (pe_callB call_len (by rfl) T.len PySem.boot_len (pa_cons (pv 6) pa_nil)) (fun _ _ => rfl)) (pa_cons (pv 8) pa_nil))))
      (pss_cons (ps_if (PW.pt (pw_and (pt_cmpR op_notN (pv 9) pe_non (nomark _)) (pw_and1 (pt_cmp (pc_dnotin hu (pv 9) (pv 5)))))) (pss_cons (ps_dput hu (pv 5) (pv 9) (pe_callB call_len (by rfl) T.len PySem.boot_len (pa_cons (pv 4) pa_nil)) rfl)
      (pss_one (ps_expr (pe_bm PySem.F.plainAttrs_list PySem.F.slot_list_append PySem.F.type_list_append mt_append (pv 4) (pa_cons (pv 9) pa_nil))))) pss_nil)
      (pss_one (ps_expr (pe_bm PySem.F.plainAttrs_list PySem.F.slot_list_append PySem.F.type_list_append mt_append (pv 7) (pa_cons (pe_dget1 hu (pv 5) (pv 9) ⟨rfl, rfl, rfl, rfl⟩) pa_nil)))))))
      (pss_cons (ps_if (pt_cmpR op_gt (pe_callB call_len (by rfl) T.len PySem.boot_len (pa_cons (pv 4) pa_nil)) (pv 3) (nomark _)) (pss_one (ps_raise rfl (takes_of rfl rfl rfl rfl) (pmk_oex T.tm.oex T.tm.iC T.tm.tI GT (hr.mono (by decide)) bT .nil pass0 (by rfl) T.tm.g (pa_cons pe_str pa_nil)))) pss_nil)
      (pss_one (ps_expr (pe_bm PySem.F.plainAttrs_list PySem.F.slot_list_append PySem.F.type_list_append mt_append (pv 6) (pa_cons (pv 7) pa_nil))))))))
      (pss_one (ps_ret (pe_tup (pa_cons (pv 4) (pa_cons (pv 6) pa_nil))))))))), ?_⟩
    refine ⟨_, rfl, by show 1 ≤ sizeLine; decide, fun M hM => ?_⟩
    have s1 : Same H (L2.upd H M (.lst [v0])) := same_new hM
    refine kd.disp (i := 1) rfl (kd.keep h0 fun b xs e => s1 _ _ e) (fun Nd hN => ?_)
    have nNM : Nd ≠ M := fun z => by rw [z, upd_same] at hN; cases hN
    have hN0 : H Nd = none := s1.free hN
    have s2 : Same H (L2.upd (L2.upd H M (.lst [v0])) Nd (kd.dic [(s0, .int 0)])) := s1.put hN0
    refine ⟨by show 0 ≤ sizeLine; decide, fun R hR => ?_⟩
    have nRN : R ≠ Nd := fun z => by rw [z, upd_same] at hR; cases hR
    have nRM : R ≠ M := fun z => by rw [z, upd_ne nNM.symm, upd_same] at hR; cases hR
    have hR0 : H R = none := s2.free hR
    have s3 : Same H (L2.upd (L2.upd (L2.upd H M (.lst [v0])) Nd (kd.dic [(s0, .int 0)])) R (.lst [])) := s2.put hR0
    refine ⟨fun m σ H1 => ∃ (n : Nat) (vs : List V) (rs : List Addr) (v7 v8 v9 : Option V), m + n = 101 ∧ (∀ i < n, (turns st (TL.tl z) s0 i).2.length < (turns st (TL.tl z) s0 i).1.length) ∧ (n = 0 ∨ (turns st (TL.tl z) s0 n).1.length ≤ most) ∧
      σ = [some (.str z), some v0, some (.ref f), some (.int most), some (.ref M), some (.ref Nd), some (.ref R), v7, v8, v9] ∧ St st (TL.tl z) Dm kd H M Nd R H1 (turns st (TL.tl z) s0 n).1 (turns st (TL.tl z) s0 n).2 vs rs, ⟨101, 0, [v0], [], none, none, none, rfl, fun i hi => absurd hi (Nat.not_lt_zero _), Or.inl rfl, rfl, ?_⟩, ?_⟩
    · refine ⟨by rw [upd_ne nRM.symm, upd_ne nNM.symm, upd_same], ⟨rfl, fun i x y e1 e2 => ?_⟩, by rw [upd_ne nRN.symm, upd_same]; rfl, upd_same, ⟨rfl, fun i x y e1 e2 => by simp at e1⟩, s3, fun r hr => (nomatch hr), fun k hk => ?_⟩
      · cases i with
        | zero =>
          cases e1; cases e2
          exact kd.keep h0 fun b xs e => s3 _ _ e
        | succ i => cases e1
      · rw [List.mem_singleton.mp hk]; exact hD0
    rintro m σ H1 ⟨n, vs, rs, v7, v8, v9, hmn, hlt, hle, rfl, W⟩
    have hn := turns_rows st (TL.tl z) s0 hlt
    have lk : (turns st (TL.tl z) s0 n).1.length ≤ 100 := by
      rcases hle with e | e
      · subst e; exact Nat.le_trans (Nat.le_refl 1) (by omega)
      · omega
    generalize ep : turns st (TL.tl z) s0 n = p at *
    obtain ⟨ks, rows⟩ := p
    dsimp only at *
    have lv : vs.length = ks.length := W.at_.1
    have lr : rs.length = rows.length := W.rows.1
    refine ⟨_, rfl, _, _, rfl, Or.inl ⟨_, SqL.of W.row, rfl⟩, _, rfl, _, _, rfl, Or.inl ⟨_, SqL.of W.mem, rfl⟩, _, _, rfl, rfl, _, rfl, ite2 (fun c0 => ?_) (fun c0 => ?_)⟩
    · have c1 : rows.length < ks.length := by
        rw [List.length_map, lr, lv] at c0
        simpa using c0
      refine ⟨_, fun _ _ h => h, by show 0 ≤ sizeLine; decide, fun r hr => ?_⟩
      have nrM : r ≠ M := (ne_of_none W.mem hr).symm
      have nrN : r ≠ Nd := (ne_of_none W.num hr).symm
      have nrR : r ≠ R := (ne_of_none W.row hr).symm
      have hr0 : H r = none := W.same.free hr
      obtain ⟨mm, hmm⟩ : ∃ mm, ks[n]? = some mm := ⟨_, List.getElem?_eq_getElem (by omega)⟩
      refine ⟨_, rfl, z, rfl, for_it walk_strS (fun j σ H3 => ∃ (vs' : List V) (v8 v9 : Option V), σ = [some (.str z), some v0, some (.ref f), some (.int most), some (.ref M), some (.ref Nd), some (.ref R), some (.ref r), v8, v9] ∧
        St st (TL.tl z) Dm kd H M Nd R H3 (rowOf st mm ((TL.tl z).take j) (ks, [])).1 rows vs' rs ∧ H3 r = some (.lst ((rowOf st mm ((TL.tl z).take j) (ks, [])).2.map fun (n : Nat) => V.int (n : Int))) ∧ ∀ q ∈ rs, q ≠ r)
        ⟨vs, v8, v9, rfl, ?_, upd_same, ?_⟩ (fun _ _ _ _ _ => trivial) ?_ ?_⟩
      · exact W.sm (same_new hr)
      · intro q hq e
        subst e
        obtain ⟨i, hi, he⟩ := List.getElem_of_mem hq
        have := W.rows.2 i q _ (List.getElem?_eq_some_iff.mpr ⟨hi, he⟩) (List.getElem?_eq_getElem (by omega))
        have this : H1 q = _ := this
        rw [hr] at this; cases this
      · rintro j x σ H3' H3 hj ⟨vs', v8, v9, rfl, W3, hr3, hfr⟩ ⟨rfl, cc, hcc, rfl⟩
        have hSS := hst.same W3.same hS
        have hpre := rowOf_pre st mm ((TL.tl z).take j) (ks, [])
        have hstep : rowOf st mm ((TL.tl z).take (j + 1)) (ks, []) = (add1 (rowOf st mm ((TL.tl z).take j) (ks, [])).1 (st mm cc), (rowOf st mm ((TL.tl z).take j) (ks, [])).2 ++ [num (add1 (rowOf st mm ((TL.tl z).take j) (ks, [])).1 (st mm cc)) (st mm cc)]) := by
          rw [List.take_add_one, hcc]
          exact rowOf_append st mm _ [cc] (ks, [])
        have hlen3 := rowOf_len st mm ((TL.tl z).take j) (ks, [])
        have hlenr := rowOf_row st mm ((TL.tl z).take j) (ks, [])
        have hjz : ((TL.tl z).take j).length ≤ 26 := by rw [List.length_take, ← TL.len_tl]; omega
        have hccm : cc ∈ TL.tl z := List.mem_of_getElem? hcc
        rw [hstep]
        generalize rowOf st mm ((TL.tl z).take j) (ks, []) = q at W3 hr3 hpre hstep hlen3 hlenr
        obtain ⟨qk, qr⟩ := q
        dsimp only at W3 hr3 hpre hlen3 hlenr ⊢
        rw [List.length_nil, Nat.zero_add] at hlenr
        have lv3 : vs'.length = qk.length := W3.at_.1
        have lr3 : rs.length = rows.length := W3.rows.1
        obtain ⟨v, hv⟩ : ∃ v, vs'[n]? = some v := ⟨_, List.getElem?_eq_getElem (by have := hpre.length_le; omega)⟩
        have hqm : qk[n]? = some mm := by
          obtain ⟨t, ht⟩ := hpre
          rw [← ht, List.getElem?_append_left (by omega)]
          exact hmm
        have hat := W3.at_.2 n v mm hv hqm
        have hdm : Dm mm := W3.dm mm (List.mem_of_getElem? hqm)
        refine ⟨rfl, hSS, _, rfl, _, rfl, _, _, rfl, Or.inl ⟨_, SqL.of W3.row, rfl⟩, M, vs', _, v, rfl, rfl, SqL.of W3.mem, ?_, _, rfl, hSS, v, mm, cc, rfl, hat, hdm, hccm, fun v' H4 s4 hat' => ?_⟩
        · refine at_of' ?_ hv
          rw [List.length_map]
          show ((rs.length : Nat) : Int) = (n : Int)
          rw [lr3]
          omega
        have W4 := W3.sm s4
        have hr4 := s4 _ _ hr3
        refine ⟨_, rfl, rfl, _, rfl, ?_⟩
        rw [decide_eq_false (kd.some_ hat')]
        show (if true = true then _ else _)
        rw [if_pos rfl]
        refine ⟨_, rfl, _, rfl, Nd, _, rfl, kd.get W4.num hat', _, rfl, ?_⟩
        rw [valV_nums]
        by_cases hin : st mm cc ∈ qk
        · rw [if_pos hin]
          show (if false = true then _ else _)
          rw [if_neg (by decide)]
          have ea : add1 qk (st mm cc) = qk := if_pos hin
          rw [ea]
          refine ⟨_, rfl, Or.inl ⟨rfl, _, SqL.of hr4⟩, _, rfl, Nd, rfl, kd.isd W4.num, _, rfl, _, kd.get W4.num hat', r, _, _, rfl, rfl, hr4, ?_, ?_⟩
          · rw [List.length_map]; exact small1000 (by omega)
          · rw [valV_nums, if_pos hin]
            refine ⟨vs', _, _, rfl, ?_, by rw [upd_same, List.map_append]; rfl, hfr⟩
            exact ⟨by rw [upd_ne nrM.symm]; exact W4.mem, W4.at_.imp fun x y _ h => kd.keep h (upd_tup hr4 fun _ z => nomatch z), by rw [upd_ne nrN.symm]; exact W4.num, by rw [upd_ne nrR.symm]; exact W4.row,
              W4.rows.imp fun x y hx h => by show L2.upd H4 r _ x = _; rw [upd_ne (hfr x hx)]; exact h, W4.same.put hr0, W4.far, W4.dm⟩
        · rw [if_neg hin]
          show (if true = true then _ else _)
          rw [if_pos rfl]
          have ea : add1 qk (st mm cc) = qk ++ [st mm cc] := if_neg hin
          rw [ea]
          have W5 := W4.add nNM nRN nRM hM hN0 hat' hin (hD mm cc hdm hccm)
          have hr5 : L2.upd (L2.upd H4 Nd (kd.dic (putK (nums qk) (st mm cc) (.int (qk.length : Int))))) M (.lst (vs' ++ [v'])) r = some (.lst (qr.map fun (n : Nat) => V.int (n : Int))) := by
            rw [upd_ne nrM, upd_ne nrN]; exact hr4
          have at5 : kd.at_ (L2.upd (L2.upd H4 Nd (kd.dic (putK (nums qk) (st mm cc) (.int (qk.length : Int))))) M (.lst (vs' ++ [v']))) v' (st mm cc) := by
            have := W5.at_.2 qk.length v' (st mm cc) (by rw [← lv3, List.getElem?_append_right (Nat.le_refl _), Nat.sub_self]; rfl) (by rw [List.getElem?_append_right (Nat.le_refl _), Nat.sub_self]; rfl)
            exact this
          have hd5 := kd.put (x := .int (qk.length : Int)) W4.num hat' (by rw [nums_len]; exact small1000 (by omega))
          rw [← lv3] at hd5
          have W5 := W5
          refine ⟨_, rfl, _, _, rfl, Or.inl ⟨_, SqL.of W4.mem, rfl⟩, _, rfl, _, rfl, Nd, _, rfl, hd5, ?_⟩
          rw [lv3]
          refine ⟨_, rfl, Or.inl ⟨rfl, vs', SqL.of (by rw [upd_ne nNM.symm]; exact W4.mem)⟩, _, rfl, M, vs', v', rfl, rfl, by rw [upd_ne nNM.symm]; exact W4.mem, small1000 (by omega), ?_⟩
          refine ⟨_, rfl, Or.inl ⟨rfl, _, SqL.of hr5⟩, _, rfl, Nd, rfl, kd.isd W5.num, _, rfl, _, kd.get W5.num at5, r, _, _, rfl, rfl, hr5, ?_, ?_⟩
          · rw [List.length_map]; exact small1000 (by omega)
          · rw [valV_nums, if_pos (by simp)]
            refine ⟨vs' ++ [v'], _, _, rfl, ?_, by rw [upd_same, List.map_append]; rfl, hfr⟩
            exact ⟨by rw [upd_ne nrM.symm]; exact W5.mem, W5.at_.imp fun x y _ h => kd.keep h (upd_tup hr5 fun _ z => nomatch z), by rw [upd_ne nrN.symm]; exact W5.num, by rw [upd_ne nrR.symm]; exact W5.row,
              W5.rows.imp fun x y hx h => by show L2.upd _ r _ x = _; rw [upd_ne (hfr x hx)]; exact h, W5.same.put hr0, W5.far, W5.dm⟩
      · rintro σ H3 ⟨vs', v8, v9, rfl, W3, hr3, hfr⟩
        rw [List.take_of_length_le (by rw [← TL.len_tl]; exact Nat.le_refl _)] at W3 hr3
        have et : turns st (TL.tl z) s0 (n + 1) = ((rowOf st mm (TL.tl z) (ks, [])).1, rows ++ [(rowOf st mm (TL.tl z) (ks, [])).2]) := by
          show turn st (TL.tl z) (turns st (TL.tl z) s0 n) = _
          rw [ep]
          unfold turn
          dsimp only
          rw [hn, hmm]
        have hl3 : vs'.length = (turns st (TL.tl z) s0 (n + 1)).1.length := by rw [et]; exact W3.at_.1
        have hl4 := rowOf_len st mm (TL.tl z) (ks, [])
        refine ⟨_, rfl, _, _, rfl, Or.inl ⟨_, SqL.of W3.mem, rfl⟩, _, rfl, _, _, rfl, rfl, _, rfl, ite2 (fun c2 => ?_) (fun c2 => ?_)⟩
        · have c3 : most < (turns st (TL.tl z) s0 (n + 1)).1.length := by rw [hl3] at c2; simpa using c2
          have c4 : most < (turns st (TL.tl z) s0 most).1.length := by
            by_cases e : n + 1 ≤ most
            · exact Nat.lt_of_lt_of_le c3 (turns_len st (TL.tl z) s0 e)
            · have e0 : n = 0 ∧ most = 0 := by
                rcases hle with h | h <;> omega
              obtain ⟨rfl, rfl⟩ := e0
              rw [ep]
              show 0 < ks.length
              omega
          refine ⟨by show 1 ≤ 1000; decide, fun a ha => ⟨a, _, rfl, upd_same, fun d hd hda => ⟨rfl, d, [("what", V.str "states")], upd_same, ?_, ?_, ?_⟩⟩⟩
          · rw [upd_ne hda, upd_same]
          · rw [upd_ne hda] at hd; exact hd
          · rw [upd_ne hda] at hd
            exact ke c4 _ _ (Raised.aft W3.same (raised_of ha hd hda))
        · have c3 : (turns st (TL.tl z) s0 (n + 1)).1.length ≤ most := by rw [hl3] at c2; simpa using c2
          refine ⟨_, rfl, Or.inl ⟨rfl, _, SqL.of W3.row⟩, _, rfl, R, _, _, rfl, rfl, W3.row, ?_, ?_⟩
          · rw [List.length_map, W3.rows.1]; exact small1000 (by omega)
          · refine ⟨m - 1, by omega, n + 1, vs', rs ++ [r], _, _, _, by omega, fun i hi => ?_, Or.inr c3, rfl, ?_⟩
            · by_cases e : i = n
              · subst e; rw [ep]; exact c1
              · exact hlt i (by omega)
            · rw [et]
              exact W3.addRow nRN nRM hR0 hr3 ⟨nrM, nrN, nrR⟩
    · have c1 : ks.length ≤ rows.length := by
        rw [List.length_map, lr, lv] at c0
        simpa using c0
      have hst2 : turns st (TL.tl z) s0 (n + 1) = turns st (TL.tl z) s0 n := turns_stay st (TL.tl z) s0 (by rw [ep]; exact c1) (n + 1) (by omega)
      have hle2 := turns_rows_le st (TL.tl z) s0 n
      rw [ep] at hle2
      have hkm : ks.length ≤ most ∧ turns st (TL.tl z) s0 most = (ks, rows) := by
        rcases hle with h | h
        · subst h
          have : ks = [s0] := by cases ep; rfl
          subst this
          rw [hn] at c1
          exact absurd c1 (by simp)
        · exact ⟨h, by rw [turns_stay st (TL.tl z) s0 (i := n) (by rw [ep]; exact c1) most (by dsimp only at hle2; omega), ep]⟩
      obtain ⟨hk1, hk2⟩ := hkm
      rw [hk2] at kq
      refine ⟨_, rfl, _, rfl, by show 2 ≤ sizeLine; decide, fun t ht => ?_⟩
      have W6 := W.sm (same_new (o := .tup [.ref M, .ref R]) ht)
      exact kq hk1 t _ W6.same ⟨M, R, vs, rs, upd_same, W6.mem, W6.at_, W6.row, W6.rows⟩
end
end Vf
set_option Elab.async false
set_option linter.all false
set_option maxRecDepth 100000
set_option maxHeartbeats 4000000
namespace Vf
open PySem L2 PyProof.Rows
section
variable {P : Program} {w : World} {K : PySem.W.Frag} {mg : Str → Option Value} {base : Heap}
structure TxtN (K : PySem.W.Frag) (mg : Str → Option Value) : Prop where
  enumerate : mg "enumerate" = none
/-- the first place of a sign of y that is none of z's -/
def strange (z y : Str) : Option Nat := (TL.tl y).findIdx? fun c => decide (c ∉ TL.tl z)
def spStrange : Sp := fun vs H Q _ => ∃ z y : Str, vs = [.str z, .str y] ∧ ∀ H', Same H H' → Q (match strange z y with | none => .non | some i => .int i) H'
abbrev s_strange_place : Stmt := top 10
abbrev N_strange_place : List Str := ["letters", "text", "place", "letter"]
abbrev P_strange_place : List Str := ["letters", "text"]
theorem sc_strange_place : FnScope N_strange_place P_strange_place (defScope s_strange_place) := ⟨rfl, rfl, rfl, by decide +kernel, rfl, by decide +kernel, by decide +kernel⟩

theorem ok_strange {f : Addr} {fd : FuncData} (F : Fun K "strange_place" "strange_place" s_strange_place f fd) (T : TxtN K mg) : FnOk P w K mg base CX0 1 f fd P_strange_place spStrange := by
  refine F.ok sc_strange_place (fun vs H Q E h => ?_) (fun cdv A outer s H vs Q E hr h => ?_)
  · obtain ⟨z, y, rfl, _⟩ := h
    rfl
  · obtain ⟨z, y, rfl, k⟩ := h
    refine ⟨_, (pss_cons (ps_for PassesOwn.never rfl (pi_enumS (by rfl) T.enumerate (pa_cons (pv 1) pa_nil)) (pg_tup (by rfl) (pgs_cons (pg_name (i := 2) sc_strange_place.nd rfl (Or.inl rfl)) (pgs_cons (pg_name (i := 3) sc_strange_place.nd rfl (Or.inl rfl)) pgs_nil))) (pss_one (ps_if (pt_cmpR op_notIn_sign (pv 3) (pv 0) (by rfl)) (pss_one (ps_ret (pv 2))) pss_nil)))
      (pss_one (ps_ret pe_non))), ?_⟩
    refine ⟨_, rfl, y, rfl, for_it walk_enumS (fun i σ H1 => ∃ v2 v3 : Option V, σ = [some (.str z), some (.str y), v2, v3] ∧ Same H H1 ∧ ∀ j c, j < i → (TL.tl y)[j]? = some c → c ∈ TL.tl z)
      ⟨none, none, rfl, Same.refl H, fun j c h => absurd h (Nat.not_lt_zero _)⟩ (fun _ _ _ _ _ => trivial) ?_ ?_⟩
    · rintro i x σ H1 H2 hi ⟨v2, v3, rfl, s1, hj⟩ ⟨q, c, rfl, hq, rfl, hc⟩
      refine ⟨q, _, rfl, SqT.of upd_same, rfl, _, _, rfl, _, _, rfl, rfl, _, rfl, _, rfl, c, z, rfl, rfl, _, rfl, ite2 (fun h1 => ?_) (fun h1 => ?_)⟩
      · have h1 : c ∉ TL.tl z := by simpa using h1
        refine ⟨_, rfl, ?_⟩
        have e : strange z y = some i := by
          obtain ⟨hlt, he⟩ := List.getElem?_eq_some_iff.mp hc
          refine List.findIdx?_eq_some_iff_getElem.mpr ⟨hlt, by simp [he, h1], fun j hji => ?_⟩
          have := hj j _ hji (List.getElem?_eq_getElem (by omega))
          simpa using this
        have := k _ (s1.trans (same_new (o := .tup [.int (i : Nat), .str (sg c)]) hq))
        rw [e] at this
        exact this
      · have h1 : c ∈ TL.tl z := by simpa using h1
        refine ⟨_, _, rfl, s1.trans (same_new hq), fun j d h2 h3 => ?_⟩
        by_cases e : j = i
        · rw [e, hc] at h3
          rw [← Option.some.inj h3]; exact h1
        · exact hj j d (by omega) h3
    · rintro σ H1 ⟨v2, v3, rfl, s1, hj⟩
      have e : strange z y = none := by
        refine List.findIdx?_eq_none_iff.mpr fun c hc => ?_
        obtain ⟨j, hlt, he⟩ := List.getElem_of_mem hc
        have := hj j c (by rw [TL.len_tl]; exact hlt) (by rw [List.getElem?_eq_getElem hlt, he])
        simp [this]
      have := k _ s1
      rw [e] at this
      exact this
end
end Vf
set_option Elab.async false
set_option linter.all false
set_option maxRecDepth 100000
set_option maxHeartbeats 4000000
/-! equal data of codes -/
namespace Vf
open PySem L2 PyProof.Rows
theorem eqvAll_inj {α : Type} [DecidableEq α] {f : α → PyData} (h : ∀ x y, PyData.eqv (f x) (f y) = decide (x = y)) : ∀ xs ys : List α, PyData.eqvAll (xs.map f) (ys.map f) = decide (xs = ys)
  | [], [] => by simp [PyData.eqvAll]
  | [], _ :: _ => by simp [PyData.eqvAll]
  | _ :: _, [] => by simp [PyData.eqvAll]
  | x :: r, y :: t => by
    simp only [List.map_cons, PyData.eqvAll, h, eqvAll_inj h r t]
    rw [Bool.eq_iff_iff]
    simp
theorem eqv_int (x y : Int) : PyData.eqv (.int x) (.int y) = decide (x = y) := by
  rw [Bool.eq_iff_iff]; simp [PyData.eqv]
theorem eqv_tupD (x y : Int × Int) : PyData.eqv (tupD x) (tupD y) = decide (x = y) := by
  obtain ⟨a, b⟩ := x
  obtain ⟨c, d⟩ := y
  rw [Bool.eq_iff_iff]
  simp [tupD, PyData.eqv, PyData.eqvAll]
theorem eqv_rowT (x y : Row) : PyData.eqv (rowT x) (rowT y) = decide (x = y) := by
  show PyData.eqv (.tuple (x.map tupD)) (.tuple (y.map tupD)) = _
  rw [PyData.eqv]; exact eqvAll_inj eqv_tupD x y
theorem eqv_rowD (x y : Row) : PyData.eqv (rowD x) (rowD y) = decide (x = y) := by
  show PyData.eqv (.list (x.map tupD)) (.list (y.map tupD)) = _
  rw [PyData.eqv]; exact eqvAll_inj eqv_tupD x y
theorem eqv_rowsT (x y : List Row) : PyData.eqv (rowsT x) (rowsT y) = decide (x = y) := by
  show PyData.eqv (.tuple (x.map rowT)) (.tuple (y.map rowT)) = _
  rw [PyData.eqv]; exact eqvAll_inj eqv_rowT x y
theorem eqv_rowsD (x y : List Row) : PyData.eqv (rowsD x) (rowsD y) = decide (x = y) := by
  show PyData.eqv (.list (x.map rowD)) (.list (y.map rowD)) = _
  rw [PyData.eqv]; exact eqvAll_inj eqv_rowD x y
theorem eqv_intsT (x y : List Int) : PyData.eqv (intsT x) (intsT y) = decide (x = y) := by
  show PyData.eqv (.tuple (x.map PyData.int)) (.tuple (y.map PyData.int)) = _
  rw [PyData.eqv]; exact eqvAll_inj eqv_int x y
theorem eqv_intsD (x y : List Int) : PyData.eqv (intsD x) (intsD y) = decide (x = y) := by
  show PyData.eqv (.list (x.map PyData.int)) (.list (y.map PyData.int)) = _
  rw [PyData.eqv]; exact eqvAll_inj eqv_int x y
theorem lay_all {α : Type} {f : α → PyData} (h : ∀ x, PyData.canLay0 (f x) = true) : ∀ xs : List α, PyData.canLayAll0 (xs.map f) = true
  | [] => by simp [PyData.canLayAll0]
  | x :: r => by simp [PyData.canLayAll0, h x, lay_all h r]
theorem depth_all {α : Type} {f : α → PyData} {n : Nat} (h : ∀ x, PyData.depth (f x) ≤ n) : ∀ xs : List α, PyData.depthAll (xs.map f) ≤ n
  | [] => by simp [PyData.depthAll]
  | x :: r => by rw [List.map_cons, PyData.depthAll]; exact Nat.max_le.mpr ⟨h x, depth_all h r⟩
theorem lay_tupD (x : Int × Int) : PyData.canLay0 (tupD x) = true := by simp [tupD, PyData.canLay0, PyData.canLayAll0]
theorem dep_tupD (x : Int × Int) : PyData.depth (tupD x) ≤ 1 := by simp [tupD, PyData.depth, PyData.depthAll]
theorem shaped_of {d : PyData} {n : Nat} (h : d.canLay0 = true) (hd : d.depth ≤ n) (hn : n ≤ 64) : SeqAt.shaped d = true := by
  unfold SeqAt.shaped
  rw [h, Bool.true_and]
  exact decide_eq_true (Nat.le_trans hd hn)
theorem lay_rowT (x : Row) : PyData.canLay0 (rowT x) = true := by rw [rowT, PyData.canLay0]; exact lay_all lay_tupD x
theorem lay_rowD (x : Row) : PyData.canLay0 (rowD x) = true := by rw [rowD, PyData.canLay0]; exact lay_all lay_tupD x
theorem dep_rowT (x : Row) : PyData.depth (rowT x) ≤ 2 := by rw [rowT, PyData.depth]; have := depth_all dep_tupD x; omega
theorem dep_rowD (x : Row) : PyData.depth (rowD x) ≤ 2 := by rw [rowD, PyData.depth]; have := depth_all dep_tupD x; omega
theorem lay_rowsT (x : List Row) : PyData.canLay0 (rowsT x) = true := by rw [rowsT, PyData.canLay0]; exact lay_all lay_rowT x
theorem lay_rowsD (x : List Row) : PyData.canLay0 (rowsD x) = true := by rw [rowsD, PyData.canLay0]; exact lay_all lay_rowD x
theorem dep_rowsT (x : List Row) : PyData.depth (rowsT x) ≤ 3 := by rw [rowsT, PyData.depth]; have := depth_all dep_rowT x; omega
theorem dep_rowsD (x : List Row) : PyData.depth (rowsD x) ≤ 3 := by rw [rowsD, PyData.depth]; have := depth_all dep_rowD x; omega
theorem lay_int (x : Int) : PyData.canLay0 (.int x) = true := by simp [PyData.canLay0]
theorem dep_int (x : Int) : PyData.depth (.int x) ≤ 0 := by simp [PyData.depth]
theorem lay_intsT (x : List Int) : PyData.canLay0 (intsT x) = true := by rw [intsT, PyData.canLay0]; exact lay_all lay_int x
theorem lay_intsD (x : List Int) : PyData.canLay0 (intsD x) = true := by rw [intsD, PyData.canLay0]; exact lay_all lay_int x
theorem dep_intsT (x : List Int) : PyData.depth (intsT x) ≤ 1 := by rw [intsT, PyData.depth]; have := depth_all dep_int x; omega
theorem dep_intsD (x : List Int) : PyData.depth (intsD x) ≤ 1 := by rw [intsD, PyData.depth]; have := depth_all dep_int x; omega
theorem shaped_rowsT (x : List Row) : SeqAt.shaped (rowsT x) = true := shaped_of (lay_rowsT x) (dep_rowsT x) (by decide)
theorem shaped_rowsD (x : List Row) : SeqAt.shaped (rowsD x) = true := shaped_of (lay_rowsD x) (dep_rowsD x) (by decide)
theorem shaped_intsT (x : List Int) : SeqAt.shaped (intsT x) = true := shaped_of (lay_intsT x) (dep_intsT x) (by decide)
theorem shaped_intsD (x : List Int) : SeqAt.shaped (intsD x) = true := shaped_of (lay_intsD x) (dep_intsD x) (by decide)
end Vf
set_option Elab.async false
set_option linter.all false
set_option maxRecDepth 100000
set_option maxHeartbeats 4000000
/-! sets of keys of one kind, made out of a text or a list, counted, sorted -/
namespace Vf
open PySem PySem.Spec L2 PyProof.Rows
/-- keys of one kind, with their values -/
structure SK (P : Program) (w : World) (κ : Type) [DecidableEq κ] where
  knd : PySem.KeyKind P w κ
  val : κ → Tok → Value
  key : Value → κ
  isv : ∀ k t, knd.is k (val k t) = true
  kv : ∀ k t, key (val k t) = k
  scn : ∀ k t, (val k t).scannable = true
section
variable {P : Program} {w : World} {κ : Type} [DecidableEq κ] (T : SK P w κ)
def SK.good (e : Int × Value) : Prop := ∃ k t, e.2 = T.val k t ∧ e.1 = T.knd.hash k
def SK.keys (es : Array (Int × Value)) : List κ := es.toList.map fun e => T.key e.2
/-- what the payload of a set says: S its members, n their number -/
structure SK.Pay (S : κ → Bool) (n : Nat) (es : Array (Int × Value)) (t : SetTable) : Prop where
  good : ∀ e ∈ es.toList, T.good e
  nd : (T.keys es).Nodup
  mem : ∀ k, S k = true ↔ k ∈ T.keys es
  bd : es.size < scanBound
  fit : t.fits es.size = true
  len : es.size = n
  ris : Ris t.place.toList
  led : w.params.followText "set-order" = true ∨ t.led = true
def SK.At (h : Heap) (a : Addr) (S : κ → Bool) (n : Nat) : Prop := ∃ o es ep t, h.get? a = some o ∧ o.ExactSet ∧ o.data = .set es ep t ∧ T.Pay S n es t
variable {T}
theorem SK.At.mv {h h' : Heap} {a : Addr} {S : κ → Bool} {n : Nat} (x : T.At h a S n) (k : ∀ o, h.get? a = some o → h'.get? a = some o) : T.At h' a S n := by
  obtain ⟨o, es, ep, t, e, r⟩ := x
  exact ⟨o, es, ep, t, k o e, r⟩
theorem SK.At.cg {h : Heap} {a : Addr} {S S' : κ → Bool} {n : Nat} (x : T.At h a S n) (e : ∀ k, S' k = S k) : T.At h a S' n := by
  rw [show S' = S from funext e]; exact x
theorem SK.asks {e : Int × Value} (g : T.good e) (k : κ) : T.knd.is k e.2 = true ↔ T.key e.2 = k := by
  obtain ⟨x, t, e1, _⟩ := g
  rw [e1, T.kv]
  exact ⟨fun h => T.knd.inj _ x k (T.isv x t) h, fun h => by rw [← h]; exact T.isv x t⟩
theorem SK.Pay.els {S : κ → Bool} {n : Nat} {es : Array (Int × Value)} {t : SetTable} (p : T.Pay S n es t) : ElemsOf T.knd es.toList := fun e he => by
  obtain ⟨k, u, e1, e2⟩ := p.good e he
  exact ⟨⟨k, by rw [e1]; exact T.isv k u, e2⟩, by rw [e1]; exact T.scn k u⟩
theorem SK.Pay.has {S : κ → Bool} {n : Nat} {es : Array (Int × Value)} {t : SetTable} (p : T.Pay S n es t) (k : κ) : S k = true ↔ ∃ e ∈ es.toList, T.knd.is k e.2 = true := by
  rw [p.mem k]
  unfold SK.keys
  rw [List.mem_map]
  exact ⟨fun ⟨e, he, q⟩ => ⟨e, he, (SK.asks (p.good e he) k).mpr q⟩, fun ⟨e, he, q⟩ => ⟨e, he, (SK.asks (p.good e he) k).mp q⟩⟩
/-- the payload with other tables, its entries in another order -/
theorem SK.Pay.perm {S : κ → Bool} {n : Nat} {es es' : Array (Int × Value)} {t t' : SetTable} (p : T.Pay S n es t) (q : es'.toList.Perm es.toList) (hf : t'.fits es'.size = true) (hr : Ris t'.place.toList) (hl : t'.led = t.led) : T.Pay S n es' t' := by
  have hs : es'.size = es.size := by rw [← Array.length_toList, q.length_eq, Array.length_toList]
  have hk : (T.keys es').Perm (T.keys es) := q.map _
  exact ⟨fun e he => p.good e (q.mem_iff.mp he), hk.nodup_iff.mpr p.nd, fun k => (p.mem k).trans hk.mem_iff.symm, by rw [hs]; exact p.bd, hf, hs.trans p.len, hr, p.led.imp id fun z => by rw [hl]; exact z⟩
theorem SK.Pay.plus {S : κ → Bool} {n : Nat} {es es' : Array (Int × Value)} {t t' : SetTable} {k : κ} {u : Tok} (p : T.Pay S n es t) (hS : S k = false) (q : es'.toList.Perm (es.toList ++ [(T.knd.hash k, T.val k u)])) (hb : n + 1 < scanBound) (hf : t'.fits es'.size = true) (hr : Ris t'.place.toList) (hl : t'.led = t.led) :
    T.Pay (fun j => S j || decide (j = k)) (n + 1) es' t' := by
  have q1 := q.trans (List.perm_append_singleton _ _)
  have hk : (T.keys es').Perm (k :: T.keys es) := by
    have := q1.map fun e => T.key e.2
    rw [List.map_cons, T.kv] at this
    exact this
  have hs : es'.size = n + 1 := by rw [← Array.length_toList, q1.length_eq, List.length_cons, Array.length_toList, p.len]
  refine ⟨fun e he => ?_, hk.nodup_iff.mpr (List.nodup_cons.mpr ⟨fun z => ?_, p.nd⟩), fun j => ?_, by rw [hs]; exact hb, hf, hs, hr, p.led.imp id fun z => by rw [hl]; exact z⟩
  · rcases List.mem_cons.mp (q1.mem_iff.mp he) with z | z
    · exact ⟨k, u, by rw [z], by rw [z]⟩
    · exact p.good e z
  · rw [(p.mem k).mpr z] at hS; cases hS
  · rw [hk.mem_iff, List.mem_cons, ← p.mem j, Bool.or_eq_true, decide_eq_true_eq]
    exact Or.comm
theorem SK.Pay.dup {S : κ → Bool} {n : Nat} {es : Array (Int × Value)} {t : SetTable} {k : κ} (p : T.Pay S n es t) (hS : S k = true) : T.Pay (fun j => S j || decide (j = k)) n es t :=
  ⟨p.good, p.nd, fun j => (show (S j || decide (j = k)) = true ↔ S j = true from ⟨fun z => by
      rw [Bool.or_eq_true, decide_eq_true_eq] at z
      exact z.elim id fun e => by rw [e]; exact hS, fun z => by rw [z]; rfl⟩).trans (p.mem j), p.bd, p.fit, p.len, p.ris, p.led⟩
end
section
variable {P : Program} {w : World} {κ : Type} [DecidableEq κ] {T : SK P w κ} {A : Around} {E : Value → Shared → Prop} {s : Shared} {a : Addr} {S : κ → Bool} {n : Nat}
theorem SK.tail {g : Bool → Sem Unit} (hg : ∀ (b : Bool) (s1 : Shared) (Q1 : Unit → Shared → Prop), Q1 () s1 → wpAny (model P w) A (g b) Q1 E s1) {o : Obj} {es : Array (Int × Value)} {ep : Nat} {t : SetTable} (ho : s.heap.get? a = some o) (hx : o.ExactSet) (hd : o.data = .set es ep t)
    {ys : Array (Int × Value)} {t2 : SetTable} (p : T.Pay S n ys t2) {wd : Bool} {R : Option Bool → Shared → Prop} (hR : ∀ h', Heap.SameBut a s.heap h' → T.At h' a S n → R (some true) { s with heap := h' }) :
    wpAny (model P w) A (do
      storeSet a ys t2
      if (!wd && t2.tooFull) = true then do
          g (relayAll t2 ys (SetTable.grown ys.size)).2.2; storeSet a (relayAll t2 ys (SetTable.grown ys.size)).1 (relayAll t2 ys (SetTable.grown ys.size)).2.1; pure (some true)
        else pure (some true)) R E s := by
  have p1 := store_at (es' := ys) (t' := t2) ho hd
  have b1 := Heap.SameBut.update s.heap a (Obj.putSet ys t2)
  refine wpAny_bind (wpAny_storeSet_of ho hd ?_ (fits_of_scanBound p.bd))
  split
  · have q := p.perm (relayAll_perm t2 ys (SetTable.grown ys.size)) (relayAll_fits t2 ys _) (relayAll_ris t2 ys _) (relayAll_led t2 ys _)
    generalize relayAll t2 ys (SetTable.grown ys.size) = Z at q ⊢
    refine wpAny_bind (hg _ _ _ (wpAny_bind (wpAny_storeSet_of p1 rfl ?_ (fits_of_scanBound q.bd))))
    exact wpAny_pure (hR _ (b1.trans (Heap.SameBut.update _ a _)) ⟨_, Z.1, _, Z.2.1, store_at (es' := Z.1) (t' := Z.2.1) p1 rfl, hx, rfl, q⟩)
  · exact wpAny_pure (hR _ b1 ⟨_, ys, _, t2, p1, hx, rfl, p⟩)
theorem SK.add {k : κ} {u : Tok} {Q : Bool → Shared → Prop} (x : T.At s.heap a S n) (room : n + 1 < scanBound)
    (hQ : ∀ h' m, Heap.SameBut a s.heap h' → T.At h' a (fun j => S j || decide (j = k)) m → m ≤ n + 1 → Q (!S k) { s with heap := h' }) : wpAny (model P w) A (setAddHashed a (T.val k u) (T.knd.hash k)) Q E s := by
  obtain ⟨o, es, ep, t, ho, hx, hd, p⟩ := x
  have hgw : ∀ (b : Bool) {s1 : Shared} {Q1 : Unit → Shared → Prop}, Q1 () s1 → wpAny (model P w) A (match b with | true => rule "set.scan.the-table-gave-way" | false => pure ()) Q1 E s1 := fun b _ _ q => match b with
    | true => wpAny_rule q
    | false => wpAny_pure q
  have hsc := T.scn k u
  unfold setAddHashed setAddHashedIn
  refine wpAny_holding (wpAny_bind (wpAny_setState_of ho hd p.fit ?_)); dsimp only
  rw [byScan_of hsc p.bd p.els]; simp only [↓reduceIte]
  unfold setAddByScan
  refine wpAny_bind (wpAny_bind (wpAny_rule (wpAny_bind (wpAny_setScan_of (T.isv k u) ho hd p.fit p.els ?_))))
  cases hfi : List.findIdx? (fun e => T.knd.is k e.2) es.toList with
  | some j =>
    obtain ⟨hj, pj, _⟩ := List.findIdx?_eq_some_iff_getElem.mp hfi
    have hS : S k = true := (p.has k).mpr ⟨_, List.getElem_mem hj, pj⟩
    have := hQ s.heap n (Heap.SameBut.refl a s.heap) ⟨o, es, ep, t, ho, hx, hd, p.dup hS⟩ (Nat.le_succ n)
    rw [hS] at this
    exact wpAny_pure (wpAny_pure this)
  | none =>
    dsimp only
    have hS : S k = false := by
      cases z : S k with
      | false => rfl
      | true =>
        obtain ⟨e, he, q⟩ := (p.has k).mp z
        have := List.findIdx?_eq_none_iff.mp hfi e he
        rw [q] at this; cases this
    have z1 := layNew_perm t es (T.knd.hash k) (T.val k u)
    have z2 := layNew_fits t es (T.knd.hash k) (T.val k u)
    have z3 := layNew_ris t es (T.knd.hash k) (T.val k u) p.ris
    have z4 := layNew_led t es (T.knd.hash k) (T.val k u)
    rw [Array.toList_push] at z1
    generalize layNew t es (T.knd.hash k) (T.val k u) = Z at z1 z2 z3 z4 ⊢
    obtain ⟨ys, t1, wd, gave⟩ := Z
    dsimp only at z1 z2 z3 z4 ⊢
    have py := p.plus hS z1 room z2 z3 z4
    have fin : ∀ h', Heap.SameBut a s.heap h' → T.At h' a (fun j => S j || decide (j = k)) (n + 1) → Q true { s with heap := h' } := fun h' b y => by
      have := hQ h' (n + 1) b y (Nat.le_refl _)
      rw [hS] at this
      exact this
    have hgp : ∀ (b : Bool) (s1 : Shared) (Q1 : Unit → Shared → Prop), Q1 () s1 → wpAny (model P w) A (match b with | true => rule "set.scan.the-table-gave-way" | false => pure ()) Q1 E s1 := fun b _ _ q => hgw b q
    refine wpAny_bind (hgw _ ?_)
    split
    · refine wpAny_bind ?_
      rw [hashByValue_scannable 8 hsc]
      refine wpAny_pure (SK.tail (T := T) ?_ ho hx hd (S := fun j => S j || decide (j = k)) (n := n + 1) ?_ fun h' b y => by dsimp only; exact wpAny_pure (fin h' b y))
      · intro b s1 Q1 q; cases b <;> first | exact wpAny_pure q | exact wpAny_rule q
      · first
          | exact { py with fit := SetTable.fits_plain_off z2 }
          | (split <;> first | exact py | exact { py with fit := SetTable.fits_plain_off z2 })
    · refine wpAny_bind (wpAny_pure ?_)
      simp only [↓reduceIte]
      refine SK.tail (T := T) ?_ ho hx hd (S := fun j => S j || decide (j = k)) (n := n + 1) py fun h' b y => by dsimp only; exact wpAny_pure (fin h' b y)
      intro b s1 Q1 q; cases b <;> first | exact wpAny_pure q | exact wpAny_rule q
end
section
variable {P : Program} {w : World} {κ : Type} [DecidableEq κ] {T : SK P w κ} {A : Around} {E : Value → Shared → Prop}
/-- all that an iterator gives goes into the set -/
theorem SK.loop {I a : Addr} {fp wr : List Addr} {G : Array GenState → Array GenState → Prop} {N : Nat} {Pv : Nat → Value → Prop} {St : Nat → Shared → Prop} {R : Result → Shared → Prop} (W : WalksS P w A.in1 I fp wr G N Pv St) (haf : a ∉ fp) (ks : List κ) (hN : N = ks.length) (hb : ks.length + 1 < scanBound)
    (hv : ∀ i v, Pv i v → ∃ k t, ks[i]? = some k ∧ v = T.val k t) : ∀ (m i : Nat) (s : Shared), N - i = m → i ≤ N → St i s → (∃ c, c ≤ i ∧ T.At s.heap a (fun j => decide (j ∈ ks.take i)) c) →
    (∀ s2 c, Moved (a :: wr) G s s2 → c ≤ N → T.At s2.heap a (fun j => decide (j ∈ ks)) c → R (.ok (.ret .none)) s2) → codeAny (model P w) A (.builtin "set.update.loop" ⟨[.ref a, .ref I], []⟩) R s := by
  have haw : a ∉ wr := fun z => haf (W.sub _ z)
  have hup : ∀ b ∈ wr, b ∈ a :: wr := fun b z => List.mem_cons_of_mem _ z
  intro m
  induction m with
  | zero =>
    rintro i s hm hi hst ⟨c, hc, hS⟩ hR
    obtain rfl : i = N := by omega
    refine codeAny_builtin F.entry_set_update_loop ?_; rw [Around.under_plainId F.plain_set_update_loop _]
    refine (show wpAny _ A.in1 (pyNext (.ref I) >>= _) _ _ s from wpAny_bind (W.done s _ _ hst fun s2 mv => ?_))
    rw [List.take_of_length_le (by omega)] at hS
    exact (show wpAny _ A.in1 (ret Value.none) _ _ s2 from wpAny_pure (hR s2 c (mv.mono hup) hc (hS.mv fun o e => mv.heap a o haw e)))
  | succ m ih =>
    rintro i s hm hi hst ⟨c, hc, hS⟩ hR
    have hlt : i < N := by omega
    refine codeAny_builtin F.entry_set_update_loop ?_; rw [Around.under_plainId F.plain_set_update_loop _]
    refine (show wpAny _ A.in1 (pyNext (.ref I) >>= _) _ _ s from wpAny_bind (W.item i s _ _ hlt hst fun v s2 hP hst2 mv => ?_))
    obtain ⟨k, t, hk, rfl⟩ := hv i v hP
    have hS2 : T.At s2.heap a (fun j => decide (j ∈ ks.take i)) c := hS.mv fun o e => mv.heap a o haw e
    refine (show wpAny _ A.in1 (holding [T.val k t] (setAdd a (T.val k t)) >>= _) _ _ s2 from wpAny_bind (wpAny_holding ?_))
    unfold setAdd
    refine wpAny_holding (wpAny_bind (T.knd.pyHash (k := k) (T.isv k t) (SK.add (s := { s2 with toks := s2.toks + 1 }) hS2 (by omega) fun h' c2 sb hS3 hc2 => ?_)))
    have hS4 : T.At h' a (fun j => decide (j ∈ ks.take (i + 1))) c2 := hS3.cg fun j => by
      rw [List.take_add_one, hk]
      simp [List.mem_append]
    refine wpAny_pure ⟨plainId_quiet F.plain_set_update_loop _, ih (i + 1) _ (by omega) hlt (W.frame _ s2 _ _ hst2 (Nat.le_succ _) fun b z o e => ?_) ⟨c2, by omega, hS4⟩ fun s3 c3 mv3 hc3 hS5 => ?_⟩
    · rw [sb.2 b fun q : b = a => haf (q ▸ z)]; exact e
    · refine hR s3 c3 (Moved.trans W.gtrans ((mv.mono hup).then_heap (Nat.le_succ _) fun b o z e => ?_) mv3) hc3 hS5
      rw [sb.2 b fun q : b = a => z (q ▸ List.mem_cons_self)]; exact e
theorem SK.fresh {h : Heap} {a : Addr} {S : κ → Bool} (e : ∀ k, S k = false) (ho : h.get? a = some { cls := .type "set", dict := none, data := .set #[] 0 (.fresh 0 0 (!w.params.followText "set-order")) }) : T.At h a S 0 :=
  ⟨_, #[], 0, _, ho, ⟨rfl, rfl, rfl⟩, rfl, ⟨(fun e he => by simp at he), List.Pairwise.nil, (fun k => by rw [e k]; exact ⟨(fun z => by cases z), fun z => nomatch z⟩), by decide, by rfl, rfl, List.Pairwise.nil, by
    cases z : w.params.followText "set-order" with
    | false => exact .inr rfl
    | true => exact .inl rfl⟩⟩
end
section
variable {P : Program} {w : World} {A : Around} {E : Value → Shared → Prop} {s : Shared}
def txK (P : Program) (w : World) : SK P w Str := ⟨strKind P w, fun k t => .str k t, fun v => match v with | .str k _ => k | _ => Str.empty, fun k t => by show Value.isStrOf k (.str k t) = true; simp [Value.isStrOf], fun _ _ => rfl, fun _ _ => rfl⟩
def inK (P : Program) (w : World) : SK P w Int := ⟨intKind P w, fun k t => .int k t, fun v => match v with | .int k _ => k | _ => 0, fun k t => intKind_is P w k t, fun _ _ => rfl, fun _ _ => rfl⟩
/-- what a set is filled with -/
def Fill (P : Program) (w : World) {κ : Type} [DecidableEq κ] (T : SK P w κ) (x : Value) (ks : List κ) (h0 : Heap) : Prop := ∀ {A : Around} {E : Value → Shared → Prop} {s : Shared} {a : Addr} {Q : Unit → Shared → Prop}, A.handled = none → (∀ b o, h0.get? b = some o → s.heap.get? b = some o) → h0.get? a = none → T.At s.heap a (fun _ => false) 0 →
  (∀ h' tk c, T.At h' a (fun j => decide (j ∈ ks)) c → c ≤ ks.length → (∀ b o, b ≠ a → s.heap.get? b = some o → h'.get? b = some o) → Q () { s with heap := h', toks := tk }) → wpAny (model P w) A (Builtin.Frozenset.updateFrom "set.__init__" a x) Q E s
theorem fill_end {κ : Type} [DecidableEq κ] {T : SK P w κ} {ks : List κ} {A : Around} {E : Value → Shared → Prop} {s s2 : Shared} {a I : Addr} {Q : Unit → Shared → Prop} {h1 : Heap} {c : Nat} {S0 : κ → Bool} (_ : T.At h1 a S0 0) (k1 : ∀ b o, s.heap.get? b = some o → h1.get? b = some o) (k2 : ∀ b o, b ∉ [a, I] → h1.get? b = some o → s2.heap.get? b = some o) (e1 : s2.gens = s.gens) (e2 : s2.drawn = s.drawn) (e3 : s2.os = s.os)
    (h2 : T.At s2.heap a (fun j => decide (j ∈ ks)) c) (hc : c ≤ ks.length) (hI : ∀ b o, s.heap.get? b = some o → b ≠ I) (hq : ∀ h' tk c, T.At h' a (fun j => decide (j ∈ ks)) c → c ≤ ks.length → (∀ b o, b ≠ a → s.heap.get? b = some o → h'.get? b = some o) → Q () { s with heap := h', toks := tk }) :
    wpAny (model P w) A (pure ()) Q E s2 := by
  obtain ⟨h', g2, d2, tk2, os2⟩ := s2
  subst e1; subst e2; subst e3
  exact wpAny_pure (hq h' tk2 c h2 hc fun b o z e => k2 b o (by simp only [List.mem_cons, List.not_mem_nil, or_false, not_or]; exact ⟨z, hI b o e⟩) (k1 b o e))
theorem fill_text {y : Str} {t : Tok} {h0 : Heap} (hl : y.length + 1 < scanBound) : Fill P w (txK P w) (.str y t) ((TL.tl y).map sg) h0 := by
  intro A E s a Q hh _ _ hS hq
  have hlen : y.cps.size = ((TL.tl y).map sg).length := by rw [List.length_map]; exact TL.len_tl y
  have hlt : a < s.heap.objs.size := by
    obtain ⟨o, _, _, _, e, _⟩ := hS
    exact Heap.lt_size e
  unfold Builtin.Frozenset.updateFrom
  refine wpAny_bind (Fz.anySet ?_)
  rw [if_neg Bool.false_ne_true]
  refine wpAny_bind (wpAny_typeOf (typeIs_str _ _ _) ?_)
  rw [if_neg (by decide)]
  refine wpAny_bind (wpAny_pyIter_str fun o St hW hst => wpAny_bind (wpAny_runValue ?_))
  have hne : a ≠ s.heap.objs.size := Nat.ne_of_lt hlt
  have hS1 : (txK P w).At (s.heap.push o) a (fun j => decide (j ∈ ((TL.tl y).map sg).take 0)) 0 := (hS.mv fun o' e => Heap.get?_push_of_some _ e).cg fun k => by simp
  refine SK.loop (T := txK P w) (hW A.in1 (by simp [hh])).toS (by simpa using hne) ((TL.tl y).map sg) hlen (by rw [← hlen]; exact hl) (fun i v hv => ?_) _ 0 { s with heap := s.heap.push o } rfl (Nat.zero_le _) hst ⟨0, Nat.le_refl 0, hS1⟩ fun s2 c mv hc h2 => ?_
  · obtain ⟨c, u, h1, rfl⟩ := hv
    refine ⟨sg c, u, ?_, rfl⟩
    rw [List.getElem?_map, show (TL.tl y)[i]? = some c from by rw [← h1]; exact Array.getElem?_toList]
    rfl
  · exact fill_end hS1 (fun b o' e => Heap.get?_push_of_some _ e) (fun b o' e => mv.heap b o' e) mv.gens mv.drawn mv.os h2 (by rw [← hlen]; exact hc) (fun b o' e => Nat.ne_of_lt (Heap.lt_size e)) hq
theorem anySetL {l : Addr} {Q : Bool → Shared → Prop} (hT : s.TypeIs (.ref l) "list") (h : Q false s) : wpAny (model P w) A (Builtin.Frozenset.isAnySet (.ref l)) Q E s := by
  unfold Builtin.Frozenset.isAnySet orM
  refine wpAny_bind (wpAny_isInstance hT PySem.F.sub_list_set ?_)
  exact (show wpAny _ _ (isInstance (.ref l) (.type "frozenset")) _ _ s from wpAny_isInstance hT PySem.F.sub_list_frozenset h)
theorem fill_list {κ : Type} [DecidableEq κ] {T : SK P w κ} {l : Addr} {items : Array Value} {ks : List κ} {h0 : Heap} (hl : h0.IsList l items) (hn : items.size = ks.length) (hv : ∀ (i : Nat) (v : Value), items[i]? = some v → ∃ (k : κ) (t : Tok), ks[i]? = some k ∧ v = T.val k t) (hb : ks.length + 1 < scanBound) : Fill P w T (.ref l) ks h0 := by
  intro A E s a Q hh hk ha hS hq
  have hl1 : s.heap.IsList l items := by
    obtain ⟨o, e, r⟩ := hl
    exact ⟨o, hk l o e, r⟩
  have hlt : a < s.heap.objs.size := by
    obtain ⟨o, _, _, _, e, _⟩ := hS
    exact Heap.lt_size e
  have hla : l ≠ a := fun z => by
    obtain ⟨o, e, _⟩ := hl
    rw [z, ha] at e; cases e
  have hll : l < s.heap.objs.size := by
    obtain ⟨o, e, _⟩ := hl1
    exact Heap.lt_size e
  have hT : s.TypeIs (.ref l) "list" := by
    obtain ⟨o, e, c, _⟩ := hl1
    exact ⟨o, e, c⟩
  unfold Builtin.Frozenset.updateFrom
  refine wpAny_bind (anySetL hT ?_)
  rw [if_neg Bool.false_ne_true]
  refine wpAny_bind (wpAny_typeOf hT ?_)
  rw [if_neg (by decide)]
  refine wpAny_bind (wpAny_pyIter_list hl1 (wpAny_bind (wpAny_runValue ?_)))
  have hne : a ≠ s.heap.objs.size := Nat.ne_of_lt hlt
  have hS1 : T.At (s.heap.push { cls := .type "list_iterator", data := .fields #[.ref l, .int 0 0] }) a (fun j => decide (j ∈ ks.take 0)) 0 := (hS.mv fun o' e => Heap.get?_push_of_some _ e).cg fun k => by simp
  refine SK.loop (T := T) (Walks.list (A := A.in1) (by simp [hh]) s.heap.objs.size l (Nat.ne_of_lt hll) items).toS (by simp only [List.mem_cons, List.not_mem_nil, or_false, not_or]; exact ⟨hne, fun z => hla z.symm⟩) ks hn hb hv _ 0 { s with heap := s.heap.push { cls := .type "list_iterator", data := .fields #[.ref l, .int 0 0] } } rfl (Nat.zero_le _) ⟨⟨_, Heap.get?_push_size _ rfl, rfl, rfl⟩, hl1.push _⟩ ⟨0, Nat.le_refl 0, hS1⟩ fun s2 c mv hc h2 => ?_
  exact fill_end hS1 (fun b o' e => Heap.get?_push_of_some _ e) (fun b o' e => mv.heap b o' e) mv.gens mv.drawn mv.os h2 (by rw [← hn]; exact hc) (fun b o' e => Nat.ne_of_lt (Heap.lt_size e)) hq
def emptySet (w : World) : Obj := { cls := .type "set", dict := none, data := .set #[] 0 (.fresh 0 0 (!w.params.followText "set-order")) }
theorem set_of {κ : Type} [DecidableEq κ] {T : SK P w κ} {x : Value} {ks : List κ} {Q : Value → Shared → Prop} (F0 : Fill P w T x ks s.heap) (hh : A.handled = none)
    (h : ∀ h' tk c, T.At h' s.heap.objs.size (fun j => decide (j ∈ ks)) c → c ≤ ks.length → (∀ b o, s.heap.get? b = some o → h'.get? b = some o) → Q (.ref s.heap.objs.size) { s with heap := h', toks := tk }) :
    wpAny (model P w) A (call (.type "set") [x]) Q E s := by
  obtain ⟨c0, tl, hmro⟩ := F.called_set.mro
  have q1 := F.called_set.made
  have q2 := F.called_set.sub
  refine wpAny_call (codeAny_of_tree (show wpAny _ _ (callAny (.type "set") _) _ _ _ from wpAny_pure ⟨Code.quiet_builtin _ (by decide +kernel), codeAny_builtin F.entry_type_call ?_⟩))
  rw [Around.under_plain (weight_type_call_type "set" [x] []) rfl]
  have q3 := F.called_set.notType
  have q4 := F.called_set.canCreate
  have q5 := F.typeCall_set_1 x
  repeat (any_goals (first | assumption | wp_step))
  refine codeAny_mono (code_set_led1 x (E := E) (Q₁ := fun obj s₁ => obj = .ref s.heap.objs.size ∧ s₁ = { s with heap := s.heap.push (emptySet w) }) ⟨rfl, rfl⟩) fun r s₁ hr => ?_
  cases r with
  | error e => exact hr
  | ok fl =>
    cases fl with
    | ret obj =>
      obtain ⟨rfl, rfl⟩ := hr
      have g0 : (s.heap.push (emptySet w)).get? s.heap.objs.size = some (emptySet w) := Heap.get?_push_size _ rfl
      have hT : Shared.TypeIs { s with heap := s.heap.push (emptySet w) } (.ref s.heap.objs.size) "set" := ⟨_, g0, rfl⟩
      have hli := F.called_set.init.lookup
      have hbi := F.called_set.init.bind (.ref s.heap.objs.size)
      repeat (any_goals (first | assumption | wp_step))
      refine codeAny_mono (codeAny_call_builtin (R := wants (fun r s₂ => r = .none ∧ ∃ h' tk c, s₂ = { s with heap := h', toks := tk } ∧ T.At h' s.heap.objs.size (fun j => decide (j ∈ ks)) c ∧ c ≤ ks.length ∧ ∀ b o, s.heap.get? b = some o → h'.get? b = some o) E) F.called_set.init.plain F.entry_set_init (check_set_init_1 hT ?_)) fun r₂ s₂ hr₂ => ?_
      · unfold Builtin.«set.__init__» noKeywords
        generalize hU : Builtin.Frozenset.updateFrom = U
        wp_walk
        subst hU
        refine F0 (by simp [hh]) (fun b o e => Heap.get?_push_of_some _ e) ?_ (SK.fresh (fun _ => rfl) g0) fun h' tk c z1 z2 z3 => ?_
        · cases z : s.heap.get? s.heap.objs.size with
          | none => rfl
          | some o => exact absurd (Heap.lt_size z) (Nat.lt_irrefl _)
        · exact (show wpAny _ _ (ret Value.none) _ _ _ from wpAny_pure ⟨rfl, h', tk, c, rfl, z1, z2, fun b o e => z3 b o (Nat.ne_of_lt (Heap.lt_size e)) (Heap.get?_push_of_some _ e)⟩)
      · cases r₂ with
        | error e => exact hr₂
        | ok fl₂ =>
          cases fl₂ with
          | ret r =>
            obtain ⟨rfl, h', tk, c', rfl, z1, z2, z3⟩ := hr₂
            repeat (any_goals (first | assumption | wp_step))
            exact h _ _ _ z1 z2 z3
          | _ => exact hr₂.elim
    | _ => exact hr.elim
end
end Vf
set_option Elab.async false
set_option linter.all false
set_option maxRecDepth 100000
set_option maxHeartbeats 4000000
/-! sets of texts: as values, counted, sorted; sets of numbers out of lists -/
namespace Vf
open PySem PySem.Spec L2 PyProof.Rows
section
variable {P : Program} {w : World} {A : Around} {E : Value → Shared → Prop} {s : Shared} {a : Addr}
theorem SK.At.num {κ : Type} [DecidableEq κ] {T : SK P w κ} {h : Heap} {S : κ → Bool} {n : Nat} (x : T.At h a S n) : ∀ l : List κ, l.Nodup → (∀ k, k ∈ l ↔ S k = true) → l.length = n := fun l hl hm => by
  obtain ⟨o, es, ep, t, _, _, _, p⟩ := x
  have h1 := (List.perm_ext_iff_of_nodup hl p.nd).mpr fun k => (hm k).trans (p.mem k)
  rw [h1.length_eq, ← p.len]
  unfold SK.keys
  rw [List.length_map, Array.length_toList]
theorem sorted_tx {S : Str → Bool} {n : Nat} {Q : Value → Shared → Prop} (x : (txK P w).At s.heap a S n) (hh : A.handled = none) (h64 : n < 64)
    (hQ : ∀ s2 p (out : Array Value) (c : Nat) (ys : List Str), (∀ b o, s.heap.get? b = some o → s2.heap.get? b = some o) → s2.gens = s.gens → s2.os = s.os → s.heap.objs.size ≤ p → s2.heap.get? p = some (seqObj "list" out c) → StrsAre out.toList ys → sortedS ys = true → ys.Nodup → (∀ k, k ∈ ys ↔ S k = true) → ys.length = n → Q (.ref p) s2) :
    wpAny (model P w) A (call (.builtin "sorted") [.ref a]) Q E s := by
  obtain ⟨o, es, ep, t, ho, hx, hd, p⟩ := x
  refine Calls.call_function_entry kind_sorted plain_sorted entry_sorted (args_sorted1 _) (?_ : wpAny _ _ (Builtin.«sorted» _) _ _ _)
  unfold Builtin.«sorted»
  refine wpAny_bind (m := checkCount "sorted" 1 1 _) (wpAny_pure (wpAny_bind (collect_set (A := A.in1) hh ⟨o, ho, hx.1, hd⟩ p.fit p.bd p.ris p.led fun s1 vs k1 hz g1 o1 pm => ?_)))
  have hl : vs.length = n := by rw [pm.length_eq, List.length_map, Array.length_toList]; exact p.len
  have hstr : ∀ v ∈ vs, ∃ y u, v = Value.str y u := fun v hv => by
    obtain ⟨e, he, q⟩ := List.mem_map.mp (pm.mem_iff.mp hv)
    obtain ⟨k, u, e1, _⟩ := p.good e he
    exact ⟨k, u, q.symm.trans e1⟩
  have hS : StrsAre vs (vs.map strOf) := strsAre_map vs hstr
  have pk : (vs.map strOf).Perm ((txK P w).keys es) := by
    have q := pm.map strOf
    rw [List.map_map] at q
    refine q.trans (List.Perm.of_eq (List.map_congr_left fun e he => ?_))
    obtain ⟨k, u, e1, _⟩ := p.good e he
    show strOf e.2 = (txK P w).key e.2
    rw [e1]
    rfl
  refine wpAny_bind (wpAny_newList ?_ (by rw [hl, sizeLine_eq]; omega))
  have hoL : (s1.heap.push (seqObj "list" vs.toArray 0)).get? s1.heap.objs.size = some (seqObj "list" vs.toArray 0) := Heap.get?_push_size _ rfl
  refine wpAny_bind (wpAny_holding (wpAny_call_entry slot_list_sort ⟨_, hoL, rfl⟩ entry_list_sort (list_sort_treeK strKind_oneLt hoL hS.keysOf (fun v₁ v₂ rest e => keyKind_strs (by rw [← e]; exact hS)) (by rw [hl]; exact h64) fun st2 hp hs => ⟨_, rfl, ?_⟩) (args_list_sort _)))
  obtain ⟨ys, b1, b2, b3⟩ := sorted_out_str hS hp hs
  obtain ⟨c, hc⟩ := sortedHeap_at (vs := vs) (out := (arrOf st2).map (·.2)) hoL
  have pn := b2.trans pk
  refine wpAny_pure ⟨_, rfl, hQ _ s1.heap.objs.size _ c ys (fun b u e => ?_) g1 o1 hz hc b1 b3 (pn.nodup_iff.mpr p.nd) (fun k => by rw [pn.mem_iff, ← p.mem k]) (by rw [pn.length_eq, ← p.len]; unfold SK.keys; rw [List.length_map, Array.length_toList])⟩
  have q := k1 b u e
  have hlt := Heap.lt_size q
  refine (show (sortedHeap (s1.heap.push (seqObj "list" vs.toArray 0)) s1.heap.objs.size vs _).get? b = some u from ?_)
  rw [sortedHeap_old (Nat.ne_of_lt hlt) (by rw [size_push']; exact Nat.lt_succ_of_lt hlt)]
  exact Heap.get?_push_of_some _ q
end
/-- the set of texts at a -/
def TxO (P : Program) (w : World) (a : Addr) (S : Str → Bool) (n : Nat) : HO := .ext fun h => (txK P w).At h a S n
section
variable {X : Cx}
theorem txO_new {P : Program} {w : World} {H : Hp} {h : Heap} {a : Addr} {S : Str → Bool} {n : Nat} (x : (txK P w).At h a S n) : ObjOk P w H h a (TxO P w a S n) := by
  have ⟨o, _, _, _, e, _⟩ := x
  exact ⟨x, ⟨o, e⟩, fun _ _ p k => SK.At.mv p (k)⟩
theorem txO_get {pins : List (Addr × Obj)} {σ : L2.St} {H : Hp} {s : Shared} {a : Addr} {S : Str → Bool} {n : Nat} (I : Inv X pins σ H s) (e : H a = some (TxO X.prog X.w a S n)) : (txK X.prog X.w).At s.heap a S n := (I.hok a _ e).1
/-- set(text), set(list of texts) -/
def rSetT (X : Cx) : List V → Hp → VK → Prop := fun xs H Q => ∃ ks : List Str, ((∃ z : Str, xs = [.str z] ∧ ks = (TL.tl z).map sg) ∨ (∃ l, xs = [.ref l] ∧ SqL X.K H l (ks.map V.str))) ∧ ks.length ≤ 1000 ∧
  ∀ p n, H p = none → (∀ l : List Str, l.Nodup → (∀ k, k ∈ l ↔ k ∈ ks) → l.length = n) → n ≤ ks.length → Q (.ref p) (L2.upd H p (TxO X.prog X.w p (fun j => decide (j ∈ ks)) n))
theorem call_setT (hc : X.calm = true) : CallR X (.type "set") (rSetT X) := by
  intro pins s σ H xs us Q I r h
  obtain ⟨ks, hx, hl, q⟩ := h
  have hb : ks.length + 1 < scanBound := by unfold scanBound; omega
  have fin : ∀ u : Value, us = [u] → Fill X.prog X.w (txK X.prog X.w) u ks s.heap → wpAny (model X.prog X.w) X.A (call (.type "set") us) (EP X pins σ Q) X.xe s := by
    rintro u rfl FF
    refine set_of FF (I.ok.hd hc) fun h' tk c z1 z2 z3 => ?_
    have hp := I.hok.fresh (Nat.le_refl s.heap.objs.size)
    exact ⟨.ref _, L2.upd H s.heap.objs.size (TxO X.prog X.w s.heap.objs.size (fun j => decide (j ∈ ks)) c), I.laid (t' := tk) z3 (Nat.le_refl _) (txO_new z1), rfl, q _ c hp (fun l h1 h2 => z1.num l h1 fun k => by rw [h2 k, decide_eq_true_eq]) z2⟩
  rcases hx with ⟨z, rfl, rfl⟩ | ⟨l, rfl, hs⟩
  · obtain ⟨u, rfl, t, rfl⟩ := vals1 r
    rw [List.length_map, ← TL.len_tl] at hb
    exact fin _ rfl (fill_text hb)
  · obtain ⟨its, rv, pl, _⟩ := I.list hs
    have hlen : its.toArray.size = ks.length := by rw [List.size_toArray, ← rv.length, List.length_map]
    refine fin _ (Vals.ref1 r) (fill_list (T := txK X.prog X.w) pl.isList hlen (fun i v hv => ?_) hb)
    have hv : its[i]? = some v := by rw [← hv]; simp
    have hi : i < ks.length := by rw [← hlen]; exact (Array.getElem?_eq_some_iff.mp (by rw [← hv]; simp : its.toArray[i]? = some v)).1
    obtain ⟨t, e⟩ := SS.strs_at (strsAre_of rv) i v hv
    refine ⟨ks[i], t, List.getElem?_eq_getElem hi, ?_⟩
    rw [e, List.getD_eq_getElem?_getD, List.getElem?_eq_getElem hi]
    rfl
/-- sorted(set of texts) -/
def rSortT (X : Cx) : List V → Hp → VK → Prop := fun xs H Q => ∃ (a : Addr) (S : Str → Bool) (n : Nat), xs = [.ref a] ∧ H a = some (TxO X.prog X.w a S n) ∧ n < 64 ∧
  ∀ (ys : List Str) (p : Addr), sortedS ys = true → ys.Nodup → (∀ k, k ∈ ys ↔ S k = true) → H p = none → Q (.ref p) (L2.upd H p (.lst (ys.map V.str)))
theorem call_sortT (hc : X.calm = true) : CallR X (.builtin "sorted") (rSortT X) := by
  intro pins s σ H xs us Q I r h
  obtain ⟨a, S, n, rfl, ha, h64, q⟩ := h
  rw [Vals.ref1 r]
  refine sorted_tx (txO_get I ha) (I.ok.hd hc) h64 fun s2 p out c ys k g o hp hg b1 b2 b3 b4 b5 => ?_
  have hlen : (ys.map V.str).length ≤ sizeLine := by rw [List.length_map, b5, sizeLine_eq]; omega
  have hn : H p = none := I.hok.fresh hp
  have J : Inv X pins σ (L2.upd H p (.lst (ys.map V.str))) { s with heap := s2.heap, gens := s2.gens, drawn := s2.drawn, toks := s2.toks } := I.call (ch := []) (Un.laid k hp hn) (I.hok.laid k hp ⟨hlen, out.toList, c, vals_of_strs b1, hg⟩) (by rw [g]; exact I.bare) (fun _ z => nomatch z)
  have e : s2 = { s with heap := s2.heap, gens := s2.gens, drawn := s2.drawn, toks := s2.toks } := by
    cases s2; cases s; cases o; rfl
  rw [e]
  exact ⟨.ref p, _, J, rfl, q ys p b2 b3 b4 hn⟩
/-- len(set of texts) -/
def rLenT (X : Cx) : List V → Hp → VK → Prop := fun xs H Q => ∃ (a : Addr) (S : Str → Bool) (n : Nat), xs = [.ref a] ∧ H a = some (TxO X.prog X.w a S n) ∧ Q (.int n) H
theorem call_lenT : CallR X (.builtin "len") (rLenT X) := by
  intro pins s σ H xs us Q I r h
  obtain ⟨a, S, n, rfl, ha, q⟩ := h
  rw [Vals.ref1 r]
  obtain ⟨o, es, ep, t, ho, hx, hd, p⟩ := txO_get I ha
  refine call_len_set ho hx hd p.fit (by have := p.bd; unfold scanBound at this; omega) ⟨.int n, H, I.tok _, ⟨_, by rw [p.len]⟩, q⟩
/-- set(list of numbers): the library's own set of numbers -/
def rSetI (X : Cx) : List V → Hp → VK → Prop := fun xs H Q => ∃ (l : Addr) (ns : List Int), xs = [.ref l] ∧ SqL X.K H l (ns.map V.int) ∧ ns.length ≤ 1000 ∧
  ∀ p n, H p = none → n ≤ ns.length → Q (.ref p) (L2.upd H p (SetO X.w p (fun j => decide (j ∈ ns)) n))
theorem inK_setR {P : Program} {w : World} {h : Heap} {a : Addr} {S : Int → Bool} {n : Nat} (x : (inK P w).At h a S n) : SetR w h a S n := by
  obtain ⟨o, es, ep, t, ho, hx, hd, p⟩ := x
  have hk : (inK P w).keys es = es.toList.map keyOf := List.map_congr_left fun e he => by
    obtain ⟨k, u, e1, _⟩ := p.good e he
    unfold keyOf
    rw [e1]
    rfl
  exact ⟨o, es, ep, t, ho, hx, hd, fun e he => by obtain ⟨k, u, e1, e2⟩ := p.good e he; exact ⟨k, u, e1, e2⟩, by rw [← hk]; exact p.nd, fun k => by rw [← hk]; exact p.mem k, p.bd, p.fit, p.len, p.ris, p.led⟩
theorem call_setI (hc : X.calm = true) : CallR X (.type "set") (rSetI X) := by
  intro pins s σ H xs us Q I r h
  obtain ⟨l, ns, rfl, hs, hl, q⟩ := h
  obtain ⟨its, rv, pl, _⟩ := I.list hs
  rw [Vals.ref1 r]
  have hlen : its.toArray.size = ns.length := by rw [List.size_toArray, ← rv.length, List.length_map]
  refine set_of (fill_list (T := inK X.prog X.w) pl.isList hlen (fun i v hv => ?_) (by unfold scanBound; omega)) (I.ok.hd hc) fun h' tk c z1 z2 z3 => ?_
  · have hv : its[i]? = some v := by rw [← hv]; simp
    have hi : i < ns.length := by rw [← hlen]; exact (Array.getElem?_eq_some_iff.mp (by rw [← hv]; simp : its.toArray[i]? = some v)).1
    obtain ⟨t, e⟩ := PyProof.Rows.IntsAre.int_at (ints_of_vals rv) i v hv
    refine ⟨ns[i], t, List.getElem?_eq_getElem hi, ?_⟩
    rw [e, List.getD_eq_getElem?_getD, List.getElem?_eq_getElem hi]
    rfl
  · exact ⟨.ref _, L2.upd H s.heap.objs.size (SetO X.w s.heap.objs.size (fun j => decide (j ∈ ns)) c), I.laid (t' := tk) z3 (Nat.le_refl _) (setO_new (inK_setR z1)), rfl, q _ c (I.hok.fresh (Nat.le_refl _)) z2⟩
/-- list(text): its signs -/
theorem vals_signs : ∀ (l : List Nat) (us : List Value), us.length = l.length → (∀ (j : Nat) (c : Nat), l[j]? = some c → ∃ u, us[j]? = some (Value.str (sg c) u)) → Vals ((l.map sg).map V.str) us
  | [], [], _, _ => .nil
  | [], _ :: _, h, _ => nomatch h
  | _ :: _, [], h, _ => nomatch h
  | c :: l, v :: us, h, hv => by
    obtain ⟨u, e⟩ := hv 0 c rfl
    exact .cons ⟨u, Option.some.inj e⟩ (vals_signs l us (by simpa using h) fun j d hj => hv (j + 1) d hj)
theorem call_listT (hc : X.calm = true) : CallR X (.type "list") (fun xs H Q => ∃ z : Str, xs = [.str z] ∧ z.length ≤ 1000 ∧ ∀ p, H p = none → Q (.ref p) (L2.upd H p (.lst (((TL.tl z).map sg).map V.str)))) := by
  intro pins s σ H xs us Q I r h
  obtain ⟨z, rfl, hz, q⟩ := h
  obtain ⟨u, rfl, t, rfl⟩ := vals1 r
  have hzs : z.cps.size ≤ sizeLine := by rw [sizeLine_eq]; have : z.cps.size = z.length := rfl; omega
  refine call_list_str (I.ok.hd hc) z t (fun h' tk acc c k e hi => ?_) hzs
  have hlen : acc.toList.length = (TL.tl z).length := by rw [Array.length_toList, hi.1]; exact TL.len_tl z
  have hv : Vals (((TL.tl z).map sg).map V.str) acc.toList := vals_signs _ _ hlen fun j d hj => by
    have hj2 : j < acc.size := by rw [← Array.length_toList, hlen]; exact (List.getElem?_eq_some_iff.mp hj).1
    obtain ⟨d', u, h1, h2⟩ := hi.2 j _ (Array.getElem?_eq_getElem hj2)
    have : (TL.tl z)[j]? = some d' := by rw [← h1]; exact Array.getElem?_toList
    rw [hj] at this
    obtain rfl := Option.some.inj this
    exact ⟨u, by rw [Array.getElem?_toList, Array.getElem?_eq_getElem hj2, h2]; rfl⟩
  have hl2 : (((TL.tl z).map sg).map V.str).length ≤ sizeLine := by rw [List.length_map, List.length_map, ← TL.len_tl]; exact hzs
  exact ⟨.ref _, L2.upd H s.heap.objs.size (.lst (((TL.tl z).map sg).map V.str)), I.laid (t' := tk) k (Nat.le_refl _) ⟨hl2, acc.toList, c, hv, e⟩, rfl, q _ (I.hok.fresh (Nat.le_refl _))⟩
end
end Vf
set_option Elab.async false
set_option linter.all false
set_option maxRecDepth 100000
set_option maxHeartbeats 4000000
/-! rows of numbers as data; what sorted(set(..)) makes of numbers -/
namespace Vf
open PySem L2 PyProof.Rows
def rowsIT (gs : List (List Int)) : PyData := .tuple (gs.map intsT)
def rowsID (gs : List (List Int)) : PyData := .list (gs.map intsD)
theorem eqv_rowsIT (x y : List (List Int)) : PyData.eqv (rowsIT x) (rowsIT y) = decide (x = y) := by
  show PyData.eqv (.tuple (x.map intsT)) (.tuple (y.map intsT)) = _
  rw [PyData.eqv]; exact eqvAll_inj eqv_intsT x y
theorem lay_rowsIT (x : List (List Int)) : PyData.canLay0 (rowsIT x) = true := by rw [rowsIT, PyData.canLay0]; exact lay_all lay_intsT x
theorem dep_rowsIT (x : List (List Int)) : PyData.depth (rowsIT x) ≤ 2 := by rw [rowsIT, PyData.depth]; have := depth_all dep_intsT x; omega
theorem shaped_rowsIT (x : List (List Int)) : SeqAt.shaped (rowsIT x) = true := shaped_of (lay_rowsIT x) (dep_rowsIT x) (by decide)
/-- rows of goals, as lists or as tuples -/
def RwsI (K : PySem.W.Frag) (H : Hp) (R : V) (gs : List (List Int)) : Prop := Dp K H R (rowsID gs) ∨ Dp K H R (rowsIT gs)
theorem RwsI.mv {K : PySem.W.Frag} {H H' : Hp} {R : V} {gs : List (List Int)} (h : RwsI K H R gs) (k : Kl H H') : RwsI K H' R gs := h.imp (fun h => h.mv k) (fun h => h.mv k)
theorem RwsI.at {K : PySem.W.Frag} {H : Hp} {R : V} {gs : List (List Int)} (h : RwsI K H R gs) : ∃ r xs, R = .ref r ∧ Sq K H r xs ∧ xs.length = gs.length ∧
    ∀ (i : Nat) (hi : i < gs.length) (x : V), xs[i]? = some x → ∃ w, x = .ref w ∧ Sq K H w (gs[i].map V.int) := by
  rcases h with h | h
  · obtain ⟨r, xs, rfl, h1, h2⟩ := h.listE
    refine ⟨r, xs, rfl, Or.inl h1, by rw [h2.length, List.length_map], fun i hi x hx => ?_⟩
    obtain ⟨v, hv, hrow⟩ := h2.get (i := i) (d := intsD gs[i]) (by rw [List.getElem?_map, List.getElem?_eq_getElem hi]; rfl)
    obtain rfl : x = v := Option.some.inj (hx.symm.trans hv)
    obtain ⟨w, ts, rfl, hw1, hw2⟩ := hrow.listE
    obtain rfl := dpAll_intsE hw2
    exact ⟨w, rfl, Or.inl hw1⟩
  · obtain ⟨r, xs, rfl, h1, h2⟩ := h.tupE
    refine ⟨r, xs, rfl, Or.inr h1, by rw [h2.length, List.length_map], fun i hi x hx => ?_⟩
    obtain ⟨v, hv, hrow⟩ := h2.get (i := i) (d := intsT gs[i]) (by rw [List.getElem?_map, List.getElem?_eq_getElem hi]; rfl)
    obtain rfl : x = v := Option.some.inj (hx.symm.trans hv)
    obtain ⟨w, ts, rfl, hw1, hw2⟩ := hrow.tupE
    obtain rfl := dpAll_intsE hw2
    exact ⟨w, rfl, Or.inr hw1⟩
/-- ascending, each once -/
def Up (es : List Int) : Prop := es.Pairwise (· < ·)
theorem up_ext : ∀ {a b : List Int}, Up a → Up b → (∀ x, x ∈ a ↔ x ∈ b) → a = b
  | [], [], _, _, _ => rfl
  | [], y :: _, _, _, h => nomatch (h y).mpr List.mem_cons_self
  | x :: _, [], _, _, h => nomatch (h x).mp List.mem_cons_self
  | x :: a, y :: b, ha, hb, h => by
    obtain ⟨ha1, ha2⟩ := List.pairwise_cons.mp ha
    obtain ⟨hb1, hb2⟩ := List.pairwise_cons.mp hb
    have e : x = y := by
      rcases List.mem_cons.mp ((h x).mp List.mem_cons_self) with q | q
      · exact q
      · rcases List.mem_cons.mp ((h y).mpr List.mem_cons_self) with r | r
        · exact r.symm
        · have h1 := hb1 x q
          have h2 := ha1 y r
          omega
    subst e
    rw [up_ext ha2 hb2 fun z => ?_]
    constructor
    · intro q
      rcases List.mem_cons.mp ((h z).mp (List.mem_cons_of_mem _ q)) with r | r
      · have := ha1 z q; omega
      · exact r
    · intro q
      rcases List.mem_cons.mp ((h z).mpr (List.mem_cons_of_mem _ q)) with r | r
      · have := hb1 z q; omega
      · exact r
end Vf
set_option Elab.async false
set_option linter.all false
set_option maxRecDepth 100000
set_option maxHeartbeats 4000000
namespace Vf
open PySem L2 PyProof.Rows
structure TxtC (K : PySem.W.Frag) (mg : Str → Option Value) (B CB fB' : Addr) : Prop where
  len : mg "len" = none
  any : mg "any" = none
  tuple : mg "tuple" = none
  enumerate : mg "enumerate" = none
  sorted : mg "sorted" = none
  set : mg "set" = none
  base : BaseT K mg "CodeError" B
  bc : ErrT K mg "BadCode" "state" CB fB'
section
variable {P : Program} {w : World} {K : PySem.W.Frag} {mg : Str → Option Value} {base : Heap}
abbrev s_BadCode___init__ : Stmt := inClass (top 2) 0
abbrev N_BadCode___init__ : List Str := ["self", "state"]
abbrev P_BadCode___init__ : List Str := ["self", "state"]
theorem sc_BadCode___init__ : FnScope N_BadCode___init__ P_BadCode___init__ (defScope s_BadCode___init__) := ⟨rfl, rfl, rfl, by decide +kernel, rfl, by decide +kernel, by decide +kernel⟩

theorem ok_bc {f B C fI : Addr} {fd : FuncData} (F : Fun K "__init__" "BadCode.__init__" s_BadCode___init__ f fd) (Tb : BaseT K mg "CodeError" B) (T : ErrT K mg "BadCode" "state" C fI) : FnOk P w K mg base CX0 1 f fd P_BadCode___init__ (spErr C "state") := by
  refine F.ok sc_BadCode___init__ (fun vs H Q E h => ?_) (fun cdv A outer s H vs Q E hr h => ?_)
  · obtain ⟨a, v, rfl, _⟩ := h
    rfl
  · obtain ⟨a, v, rfl, ha, k⟩ := h
    refine ⟨_, pss_cons (ps_expr (pe_clsinit Tb (by rfl) (pa_cons (pv 0) (pa_cons pe_str pa_nil)))) (pss_one (ps_ost (pv 0) (pv 1))), ?_⟩
    refine ⟨_, rfl, a, C, _, rfl, by show 1 ≤ 1000; decide, T.oex, ha, ?_⟩
    exact ⟨_, rfl, _, rfl, a, C, rfl, T.oex, T.nf, Or.inl ⟨ha, fun d h1 h2 => k d h1 h2⟩⟩
/-- the errors that leave: BadCode with its state -/
def EBC (CB : Addr) (H : Hp) (E : XK) (i : Int) : Prop := ∀ d H', Raised H H' d "state" (.int i) → E (.ref CB) (some d) H'
theorem Raised.after {H H1 H' : Hp} {d : Addr} {f : Str} {v : V} (s : Same H H1) (r : Raised H1 H' d f v) : Raised H H' d f v := ⟨s.free r.1, r.2.1, s.trans r.2.2⟩
/-- a row that is wrong, of a shape with n states over m values -/
def badG (m n : Nat) (r : List Int) : Prop := r.length ≠ m ∨ ∃ g ∈ r, ¬ (0 ≤ g ∧ g < n)
def BadRow (m : Nat) (gs : List (List Int)) (i : Nat) : Prop :=
  (∃ h : i < gs.length, badG m gs.length gs[i] ∧ ∀ (j : Nat) (hj : j < i), ¬ badG m gs.length gs[j]) ∨ (i = 0 ∧ gs.length = 0)
def GoodRows (m : Nat) (gs : List (List Int)) : Prop := (∀ (j : Nat) (hj : j < gs.length), ¬ badG m gs.length gs[j]) ∧ 0 < gs.length
def okG (n : Int) (g : Int) : Bool := !(decide (0 ≤ g) && decide (g < n))
theorem okG_any {n : Nat} {r : List Int} : (r.map (okG n)).any id = true ↔ ∃ g ∈ r, ¬ (0 ≤ g ∧ g < n) := by
  rw [List.any_eq_true]
  constructor
  · rintro ⟨b, hb, e⟩
    obtain ⟨g, hg, rfl⟩ := List.mem_map.mp hb
    refine ⟨g, hg, fun h => ?_⟩
    have e : okG n g = true := e
    unfold okG at e
    rw [decide_eq_true h.1, decide_eq_true h.2] at e
    exact Bool.noConfusion e
  · rintro ⟨g, hg, h⟩
    refine ⟨okG n g, List.mem_map.mpr ⟨g, hg, rfl⟩, ?_⟩
    show okG n g = true
    unfold okG
    by_cases h0 : 0 ≤ g
    · have h1 : ¬ g < n := fun q => h ⟨h0, q⟩
      rw [decide_eq_false h1, Bool.and_false]; rfl
    · rw [decide_eq_false h0]; rfl
def spGoals (K : PySem.W.Frag) (CB : Addr) : Sp := fun vs H Q E => ∃ (z : Str) (R : V) (gs : List (List Int)), vs = [.str z, R] ∧ RwsI K H R gs ∧ z.length ≤ 26 ∧ gs.length ≤ 100 ∧ (∀ r ∈ gs, r.length ≤ 100) ∧
  (GoodRows z.length gs → ∀ H', Same H H' → Q .non H') ∧ (∀ i : Nat, BadRow z.length gs i → EBC CB H E i)
abbrev s_check_goals : Stmt := top 16
abbrev N_check_goals : List Str := ["values", "rows", "many", "state", "row", "goal"]
abbrev P_check_goals : List Str := ["values", "rows"]
theorem sc_check_goals : FnScope N_check_goals P_check_goals (defScope s_check_goals) := ⟨rfl, rfl, rfl, by decide +kernel, rfl, by decide +kernel, by decide +kernel⟩

theorem ok_goals {f B CB fB' : Addr} {fd fdB : FuncData} (F : Fun K "check_goals" "check_goals" s_check_goals f fd) (T : TxtC K mg B CB fB') (FB' : Fun K "__init__" "BadCode.__init__" s_BadCode___init__ fB' fdB) (bB' : Binds K fdB P_BadCode___init__ []) : FnOk P w K mg base (L2.CX P w) 3 f fd P_check_goals (spGoals K CB) := by
  have GB' : FnOk P w K mg base CX0 1 fB' fdB P_BadCode___init__ (spErr CB "state") := ok_bc FB' T.base T.bc
  refine F.okX sc_check_goals (fun vs H Q E h => ?_) (fun cdv A outer s H vs Q E hr h => ?_)
  · obtain ⟨z, R, gs, rfl, _⟩ := h
    rfl
  · obtain ⟨z, R, gs, rfl, hR, hz, hl, hrl, kq, ke⟩ := h
    refine ⟨_, (pss_cons (ps_set (i := 2) sc_check_goals.nd rfl (Or.inr rfl) (pe_callB call_len (by rfl) T.len PySem.boot_len (pa_cons (pv 1) pa_nil)))
      (pss_cons (ps_for (passes_of rfl) rfl (pi_enumX (by rfl) T.enumerate (pa_cons (pv 1) pa_nil)) (pg_tup (by rfl) (pgs_cons (pg_name (i := 3) sc_check_goals.nd rfl (Or.inl rfl)) (pgs_cons (pg_name (i := 4) sc_check_goals.nd rfl (Or.inl rfl)) pgs_nil))) (pss_one (ps_if (PW.pt (pw_or (pt_cmpR op_ne (pe_callB call_len (by rfl) T.len PySem.boot_len (pa_cons (pv 4) pa_nil)) (pe_callB call_len (by rfl) T.len PySem.boot_len (pa_cons (pv 0) pa_nil)) (nomark _)) (pw_or1 (pt_val (pe_callB (cr_any rfl) (by rfl) T.any boot_any (pa_cons (pe_lc (own := [("goal", 5)]) (g := gName 5) (by rfl) sc_check_goals.nd (pi_seq (K := K) rfl (pv 4)) (blkOk_by (own := [("goal", 5)]) (N := N_check_goals) (sc := defScope s_check_goals) (by decide +kernel)) (fun _ _ _ _ _ => pg_name (i := 5) sc_check_goals.nd rfl (Or.inl rfl)) (fun _ _ _ _ _ => pts_nil) (fun _ _ _ _ _ => (pe_not (pe_chain op_le op_lt pe_int (pv 5) (pv 2))))) pa_nil)))))) (pss_one (ps_raise rfl (takes_of rfl rfl rfl rfl) (pmk_oex T.bc.oex T.bc.iC T.bc.tI GB' (hr.mono (by decide)) bB' .nil pass0 (by rfl) T.bc.g (pa_cons (pv 3) pa_nil)))) pss_nil)))
      (pss_one (ps_if (pt_cmpR op_eq (pv 2) pe_int (nomark _)) (pss_one (ps_raise rfl (takes_of rfl rfl rfl rfl) (pmk_oex T.bc.oex T.bc.iC T.bc.tI GB' (hr.mono (by decide)) bB' .nil pass0 (by rfl) T.bc.g (pa_cons pe_int pa_nil)))) pss_nil)))), ?_⟩
    obtain ⟨r, xs, rfl, hr1, lr, hrow⟩ := hR.at
    have hzs : z.length ≤ sizeLine := Nat.le_of_lt (small1000 (by omega))
    refine ⟨_, rfl, _, _, rfl, hr1.len, ?_⟩
    refine ⟨_, rfl, r, xs, rfl, hr1, fun J hJ => for_it hJ (fun i σ H1 => ∃ v3 v4 v5 : Option V, σ = [some (.str z), some (.ref r), some (.int xs.length), v3, v4, v5] ∧ Same H H1 ∧ ∀ (j : Nat) (hj : j < gs.length), j < i → ¬ badG z.length gs.length gs[j])
      ⟨none, none, none, rfl, Same.refl H, fun j _ h => absurd h (Nat.not_lt_zero _)⟩ (fun i σ H1 _ ⟨_, _, _, _, s1, _⟩ => GSq.same s1) ?_ ?_⟩
    · rintro i x σ H1 H2 hi ⟨v3, v4, v5, rfl, s1, hj⟩ ⟨q, b, rfl, hq, rfl, hb⟩
      have hi' : i < gs.length := by omega
      obtain ⟨w5, rfl, hw1⟩ := hrow i hi' b hb
      have hri := hrl _ (List.getElem_mem hi')
      have s2 : Same H (L2.upd H1 q (.tup [.int i, .ref w5])) := s1.trans (same_new hq)
      refine ⟨q, _, rfl, SqT.of upd_same, rfl, _, _, rfl, _, _, rfl, rfl, ?_⟩
      generalize L2.upd H1 q (.tup [.int i, .ref w5]) = H3 at s2
      refine ⟨_, rfl, _, _, rfl, (hw1.same s2).len, _, rfl, _, _, rfl, ⟨hzs, rfl⟩, rfl, _, rfl, ?_⟩
      refine ite2 (fun c1 => ?_) (fun c1 => ?_)
      · have c1 : gs[i].length ≠ z.length := by simp at c1; omega
        have hbad : BadRow z.length gs i := Or.inl ⟨hi', Or.inl c1, fun j hj' => hj j (by omega) hj'⟩
        refine ⟨_, rfl, by show 1 ≤ 1000; decide, fun a ha => ⟨a, _, rfl, upd_same, fun d hd hda => ⟨rfl, d, [("state", V.int i)], upd_same, ?_, ?_, ?_⟩⟩⟩
        · rw [upd_ne hda, upd_same]
        · rw [upd_ne hda] at hd; exact hd
        · rw [upd_ne hda] at hd
          exact ke i hbad d _ ((raised_of ha hd hda).after s2)
      have c1 : gs[i].length = z.length := by simp at c1; omega
      refine ⟨_, rfl, w5, gs[i].map V.int, rfl, hw1.same s2, fun J2 hJ2 D hD => lc_it hJ2 (fun j H4 => H4 D = some (.lst (((gs[i].take j).map (okG xs.length)).map V.bl)) ∧ Same H3 H4)
        ⟨upd_same, same_new hD⟩ (fun j H4 _ ⟨_, s4⟩ => GSq.same s4) ?_ ?_⟩
      · rintro j x H4' H4 hjt ⟨hD4, s4⟩ ⟨rfl, hx⟩
        have hj' : j < gs[i].length := by rw [List.length_map] at hjt; exact hjt
        obtain rfl : V.int (gs[i][j]) = x := by
          rw [List.getElem?_map, List.getElem?_eq_getElem hj'] at hx
          exact Option.some.inj hx
        refine ⟨rfl, ?_⟩
        refine lcYes ?_
        have hlen : (((gs[i].take j).map (okG xs.length)).map V.bl).length < sizeLine := by
          rw [List.length_map, List.length_map, List.length_take]; exact small1000 (by omega)
        have ee : ∀ v : V, v = .bl (okG xs.length (gs[i][j])) → L2.upd H4 D (.lst (((gs[i].take j).map (okG xs.length)).map V.bl ++ [v])) D = some (.lst (((gs[i].take (j + 1)).map (okG xs.length)).map V.bl)) := fun v hv => by
          rw [upd_same, take_more hj', List.map_append, List.map_append, hv]; rfl
        refine ⟨_, rfl, _, _, rfl, rfl, _, rfl, ?_⟩
        by_cases g0 : 0 ≤ gs[i][j]
        · rw [if_pos (decide_eq_true g0)]
          refine ⟨_, rfl, _, _, rfl, rfl, _, rfl, _, hD4, hlen, ee _ ?_, s4.put hD⟩
          unfold okG
          rw [decide_eq_true g0, Bool.true_and]
        · rw [if_neg (by simpa using g0)]
          refine ⟨_, rfl, _, hD4, hlen, ee _ ?_, s4.put hD⟩
          unfold okG
          rw [decide_eq_false g0]; rfl
      · rintro H4 ⟨hD4, s4⟩
        rw [List.length_map, List.take_length] at hD4
        refine ⟨D, _, rfl, SqL.of hD4, _, rfl, ite2 (fun c3 => ?_) (fun c3 => ?_)⟩
        · have c3 : ∃ g ∈ gs[i], ¬ (0 ≤ g ∧ g < gs.length) := okG_any.mp (by rw [lr] at c3; exact c3)
          have hbad : BadRow z.length gs i := Or.inl ⟨hi', Or.inr c3, fun j hj' => hj j (by omega) hj'⟩
          have s5 : Same H H4 := s2.trans s4
          refine ⟨_, rfl, by show 1 ≤ 1000; decide, fun a ha => ⟨a, _, rfl, upd_same, fun d hd hda => ⟨rfl, d, [("state", V.int i)], upd_same, ?_, ?_, ?_⟩⟩⟩
          · rw [upd_ne hda, upd_same]
          · rw [upd_ne hda] at hd; exact hd
          · rw [upd_ne hda] at hd
            exact ke i hbad d _ ((raised_of ha hd hda).after s5)
        · refine ⟨_, _, _, rfl, s2.trans s4, fun j hjl hji => ?_⟩
          by_cases e : j = i
          · subst e
            rintro (h | h)
            · exact h c1
            · exact c3 (by rw [lr]; exact okG_any.mpr h)
          · exact hj j hjl (by omega)
    · rintro σ H1 ⟨v3, v4, v5, rfl, s1, hj⟩
      have hj : ∀ (j : Nat) (hj : j < gs.length), ¬ badG z.length gs.length gs[j] := fun j h => hj j h (by omega)
      refine ⟨_, rfl, rfl, _, rfl, ite2 (fun c1 => ?_) (fun c1 => ?_)⟩
      · have c1 : xs.length = 0 := by simpa using c1
        refine ⟨by show 1 ≤ 1000; decide, fun a ha => ⟨a, _, rfl, upd_same, fun d hd hda => ⟨rfl, d, [("state", V.int 0)], upd_same, ?_, ?_, ?_⟩⟩⟩
        · rw [upd_ne hda, upd_same]
        · rw [upd_ne hda] at hd; exact hd
        · rw [upd_ne hda] at hd
          exact ke 0 (Or.inr ⟨rfl, by omega⟩) d _ ((raised_of ha hd hda).after s1)
      have c1 : xs.length ≠ 0 := by simpa using c1
      exact kq ⟨hj, by omega⟩ _ s1
def spGood (K : PySem.W.Frag) (CB : Addr) : Sp := fun vs H Q E => ∃ (a : Addr) (es : List Int) (n : Nat), vs = [.ref a, .int n] ∧ Sq K H a (es.map V.int) ∧ es.length ≤ 1000 ∧
  ((∀ e ∈ es, 0 ≤ e ∧ e < n) → ∀ H', Same H H' → Q .non H') ∧ (∀ (i : Nat) (h : i < es.length), ¬ (0 ≤ es[i] ∧ es[i] < n) → (∀ j (hj : j < i), 0 ≤ es[j] ∧ es[j] < n) → EBC CB H E es[i])
abbrev s_check_good : Stmt := top 17
abbrev N_check_good : List Str := ["good", "many", "state"]
abbrev P_check_good : List Str := ["good", "many"]
theorem sc_check_good : FnScope N_check_good P_check_good (defScope s_check_good) := ⟨rfl, rfl, rfl, by decide +kernel, rfl, by decide +kernel, by decide +kernel⟩

theorem ok_good {f B CB fB' : Addr} {fd fdB : FuncData} (F : Fun K "check_good" "check_good" s_check_good f fd) (T : TxtC K mg B CB fB') (FB' : Fun K "__init__" "BadCode.__init__" s_BadCode___init__ fB' fdB) (bB' : Binds K fdB P_BadCode___init__ []) : FnOk P w K mg base (L2.CX P w) 3 f fd P_check_good (spGood K CB) := by
  have GB' : FnOk P w K mg base CX0 1 fB' fdB P_BadCode___init__ (spErr CB "state") := ok_bc FB' T.base T.bc
  refine F.okX sc_check_good (fun vs H Q E h => ?_) (fun cdv A outer s H vs Q E hr h => ?_)
  · obtain ⟨a, es, n, rfl, _⟩ := h
    rfl
  · obtain ⟨a, es, n, rfl, ha, hl, kq, ke⟩ := h
    refine ⟨_, (pss_one (ps_for (passes_of rfl) rfl (pi_seq (K := K) rfl (pv 0)) (pg_name (i := 2) sc_check_good.nd rfl (Or.inl rfl)) (pss_one (ps_if (pt_not (pt_chain op_le op_lt pe_int (pv 2) (pv 1))) (pss_one (ps_raise rfl (takes_of rfl rfl rfl rfl) (pmk_oex T.bc.oex T.bc.iC T.bc.tI GB' (hr.mono (by decide)) bB' .nil pass0 (by rfl) T.bc.g (pa_cons (pv 2) pa_nil)))) pss_nil)))), ?_⟩
    refine ⟨_, rfl, a, _, rfl, ha, fun J hJ => for_it hJ (fun i σ H1 => ∃ v2 : Option V, σ = [some (.ref a), some (.int n), v2] ∧ Same H H1 ∧ ∀ (j : Nat) (hj : j < es.length), j < i → 0 ≤ es[j] ∧ es[j] < n)
      ⟨none, rfl, Same.refl H, fun j _ h => absurd h (Nat.not_lt_zero _)⟩ (fun i σ H1 _ ⟨_, _, s1, _⟩ => GSq.same s1) ?_ ?_⟩
    · rintro i x σ H2 H1 hi ⟨v2, rfl, s1, hj⟩ ⟨rfl, hx⟩
      have hi' : i < es.length := by rw [List.length_map] at hi; exact hi
      obtain rfl : V.int (es[i]) = x := by
        rw [List.getElem?_map, List.getElem?_eq_getElem hi'] at hx
        exact Option.some.inj hx
      refine ⟨_, rfl, _, _, rfl, rfl, _, rfl, ?_⟩
      have good : (0 ≤ es[i] ∧ es[i] < n) → ∀ (j : Nat) (hj : j < es.length), j < i + 1 → 0 ≤ es[j] ∧ es[j] < n := fun g j hjl hji => by
        by_cases e : j = i
        · subst e; exact g
        · exact hj j hjl (by omega)
      have bad : ¬ (0 ≤ es[i] ∧ es[i] < n) → EBC CB H E es[i] := fun g => ke i hi' g fun j hj' => hj j (by omega) hj'
      have rs : ¬ (0 ≤ es[i] ∧ es[i] < n) → tMkO CB (spErr CB "state") [] (tCons (tVar 2) tNil) [some (.ref a), some (.int n), some (.int es[i])] H1 (fun cls d H' => E cls d H') := fun g => by
        refine ⟨_, rfl, by show 1 ≤ 1000; decide, fun a ha => ⟨a, _, rfl, upd_same, fun d hd hda => ⟨rfl, d, [("state", V.int es[i])], upd_same, ?_, ?_, ?_⟩⟩⟩
        · rw [upd_ne hda, upd_same]
        · rw [upd_ne hda] at hd; exact hd
        · rw [upd_ne hda] at hd
          exact bad g d _ ((raised_of ha hd hda).after s1)
      by_cases g0 : 0 ≤ es[i]
      · rw [if_pos (decide_eq_true g0)]
        refine ⟨_, rfl, _, _, rfl, rfl, _, rfl, ?_⟩
        by_cases g1 : es[i] < n
        · refine ite2 (fun c => absurd c ?_) (fun _ => ?_)
          · rw [decide_eq_true g1]; decide
          · exact ⟨_, rfl, s1, good ⟨g0, g1⟩⟩
        · refine ite2 (fun _ => rs fun q => g1 q.2) (fun c => absurd ?_ c)
          rw [decide_eq_false g1]; decide
      · rw [if_neg (by simpa using g0)]
        refine ⟨_, rfl, ?_⟩
        exact ite2 (fun _ => rs fun q => g0 q.1) (fun c => absurd rfl c)
    · rintro σ H1 ⟨v2, rfl, s1, hj⟩
      refine kq (fun e he => ?_) _ s1
      obtain ⟨j, hjl, rfl⟩ := List.getElem_of_mem he
      exact hj j hjl (by rw [List.length_map]; exact hjl)
end
end Vf
set_option Elab.async false
set_option linter.all false
set_option maxRecDepth 100000
set_option maxHeartbeats 4000000
namespace Vf
open PySem L2 PyProof.Rows
theorem kLR : ¬ (("letters" : Str) = "rows") := by decide +kernel
theorem kLG : ¬ (("letters" : Str) = "good") := by decide +kernel
theorem kRG : ¬ (("rows" : Str) = "good") := by decide +kernel
/-- a shape's attributes -/
def sflds (z : Str) (R E : V) : List (Str × V) := putF "good" E (putF "rows" R (putF "letters" (.str z) []))
theorem sf_letters (z : Str) (R E : V) : (sflds z R E).lookup ("letters" : Str) = some (.str z) := by
  unfold sflds
  rw [lookup_putF, if_neg kLG, lookup_putF, if_neg kLR, lookup_putF, if_pos rfl]
theorem sf_rows (z : Str) (R E : V) : (sflds z R E).lookup ("rows" : Str) = some R := by
  unfold sflds
  rw [lookup_putF, if_neg kRG, lookup_putF, if_pos rfl]
theorem sf_good (z : Str) (R E : V) : (sflds z R E).lookup ("good" : Str) = some E := by
  unfold sflds
  rw [lookup_putF, if_pos rfl]
theorem sf_no (z : Str) (R E : V) {m : Str} (h1 : ¬ m = "letters") (h2 : ¬ m = "rows") (h3 : ¬ m = "good") : (sflds z R E).lookup m = none := by
  unfold sflds
  rw [lookup_putF, if_neg h3, lookup_putF, if_neg h2, lookup_putF, if_neg h1]
  rfl
/-- a shape's object -/
def ShapeAt (K : PySem.W.Frag) (C : Addr) (H : Hp) (o : Addr) (z : Str) (gs : List (List Int)) (es : List Int) : Prop :=
  ∃ dx R E, H o = some (.ins C dx (sflds z R E)) ∧ Dp K H R (rowsIT gs) ∧ Dp K H E (intsT es)
/-- what is asked of the class -/
structure TxtS (K : PySem.W.Frag) (mg : Str → Option Value) (C fCG fCD B CB fB' : Addr) : Prop extends TxtC K mg B CB fB' where
  cl : Cls K C
  nL : NoAttr K C "letters"
  nR : NoAttr K C "rows"
  nG : NoAttr K C "good"
  mgShape : mg "Shape" = some (.ref C)
  mcheck_goals : mg "check_goals" = some (.ref fCG)
  kcheck_goals : PySem.W.keepIn K (.ref fCG) = true
  mcheck_good : mg "check_good" = some (.ref fCD)
  kcheck_good : PySem.W.keepIn K (.ref fCD) = true
/-- Shape(..), right or wrong; what was there stays -/
def spInitS (K : PySem.W.Frag) (C CB : Addr) : Sp := fun vs H Q E' => ∃ (o dx : Addr) (z : Str) (R : V) (g : Addr) (gs : List (List Int)) (es : List Int), vs = [.ref o, .str z, R, .ref g] ∧ H o = some (.ins C dx []) ∧ RwsI K H R gs ∧ SqL K H g (es.map V.int) ∧ z.length ≤ 26 ∧ gs.length ≤ 100 ∧ es.length < 64 ∧ (∀ r ∈ gs, r.length ≤ 100) ∧
  (GoodRows z.length gs → (∀ e ∈ es, 0 ≤ e ∧ e < (gs.length : Nat)) → ∀ H' es', Up es' → (∀ x, x ∈ es' ↔ x ∈ es) → ShapeAt K C H' o z gs es' → (∀ b u, H b = some u → b ≠ o → H' b = some u) → Q .non H') ∧
  (∀ i, BadRow z.length gs i → EBC CB H E' i) ∧ (GoodRows z.length gs → ∀ (i : Nat) (h : i < es.length), ¬ (0 ≤ es[i] ∧ es[i] < (gs.length : Nat)) → (∀ j (hj : j < i), 0 ≤ es[j] ∧ es[j] < (gs.length : Nat)) → EBC CB H E' es[i])
theorem EBC.aft {CB : Addr} {H H1 : Hp} {E : XK} {i : Int} (s : Same H H1) (e : EBC CB H E i) : EBC CB H1 E i := fun d H' r => e d H' (r.after s)
section
variable {P : Program} {w : World} {K : PySem.W.Frag} {mg : Str → Option Value} {base : Heap}
abbrev s_Shape___init__ : Stmt := inClass (top 15) 0
abbrev N_Shape___init__ : List Str := ["self", "values", "rows", "good", "row"]
abbrev P_Shape___init__ : List Str := ["self", "values", "rows", "good"]
theorem sc_Shape___init__ : FnScope N_Shape___init__ P_Shape___init__ (defScope s_Shape___init__) := ⟨rfl, rfl, rfl, by decide +kernel, rfl, by decide +kernel, by decide +kernel⟩

theorem ok_initS {f fCG fCD C B CB fB' : Addr} {fd fdCG fdCD fdB : FuncData} (F : Fun K "__init__" "Shape.__init__" s_Shape___init__ f fd) (T : TxtS K mg C fCG fCD B CB fB') (FCG : Fun K "check_goals" "check_goals" s_check_goals fCG fdCG) (bcheck_goals : Binds K fdCG P_check_goals [])
    (FCD : Fun K "check_good" "check_good" s_check_good fCD fdCD) (bcheck_good : Binds K fdCD P_check_good [])
    (FB' : Fun K "__init__" "BadCode.__init__" s_BadCode___init__ fB' fdB) (bB' : Binds K fdB P_BadCode___init__ []) : FnOk P w K mg base (L2.CX P w) 4 f fd P_Shape___init__ (spInitS K C CB) := by
  have Gcheck_goals : FnOk P w K mg base (L2.CX P w) 3 fCG fdCG P_check_goals (spGoals K CB) := ok_goals FCG T.toTxtC FB' bB'
  have Gcheck_good : FnOk P w K mg base (L2.CX P w) 3 fCD fdCD P_check_good (spGood K CB) := ok_good FCD T.toTxtC FB' bB'
  refine F.okX sc_Shape___init__ (fun vs H Q E h => ?_) (fun cdv A outer s H vs Q E' hr h => ?_)
  · obtain ⟨o, dx, z, R, g, gs, es, rfl, _⟩ := h
    rfl
  · obtain ⟨o, dx, z, R, g, gs, es, rfl, ho, hR, hg, hz, hl, hel, hrl, kq, ke, ke2⟩ := h
    refine ⟨_, (pss_cons (ps_expr (pe_call Gcheck_goals (hr.mono (by decide)) (by rfl) T.mcheck_goals T.kcheck_goals bcheck_goals .nil (passes_call (takes_of rfl rfl rfl rfl) (fun _ _ _ _ h => h)) (pa_cons (pv 1) (pa_cons (pv 2) pa_nil))))
      (pss_cons (ps_expr (pe_call Gcheck_good (hr.mono (by decide)) (by rfl) T.mcheck_good T.kcheck_good bcheck_good .nil (passes_call (takes_of rfl rfl rfl rfl) (fun _ _ _ _ h => h)) (pa_cons (pv 3) (pa_cons (pe_callB call_len (by rfl) T.len PySem.boot_len (pa_cons (pv 2) pa_nil)) pa_nil))))
      (pss_cons (ps_fld (pv 0) (pv 1) rfl)
      (pss_cons (ps_fld (pv 0) (pe_callTy call_tuple_of (by rfl) T.tuple boot_tuple (pa_cons (pe_lc (own := [("row", 4)]) (g := gName 4) (by rfl) sc_Shape___init__.nd (pi_seq (K := K) rfl (pv 2)) (blkOk_by (own := [("row", 4)]) (N := N_Shape___init__) (sc := defScope s_Shape___init__) (by decide +kernel)) (fun _ _ _ _ _ => pg_name (i := 4) sc_Shape___init__.nd rfl (Or.inl rfl)) (fun _ _ _ _ _ => pts_nil) (fun _ _ _ _ _ => (pe_callTy (call_tupleK (K := K) rfl) (by rfl) T.tuple boot_tuple (pa_cons (pv 4) pa_nil)))) pa_nil)) rfl)
      (pss_one (ps_fld (pv 0) (pe_callTy call_tuple_of (by rfl) T.tuple boot_tuple (pa_cons (pe_callB (cr_sortedSet rfl) (by rfl) T.sorted boot_sorted (pa_cons (pe_callTy (call_setI rfl) (by rfl) T.set (by decide +kernel) (pa_cons (pv 3) pa_nil)) pa_nil)) pa_nil)) rfl)))))), ?_⟩
    refine ⟨_, rfl, _, rfl, z, R, gs, rfl, hR, hz, hl, hrl, fun hok H0 s0 => ?_, fun i hb => ke i hb⟩
    obtain ⟨r, xs, rfl, hr1, lr, hrow⟩ := hR.at
    refine ⟨_, rfl, _, rfl, _, _, rfl, (hr1.same s0).len, ?_⟩
    refine ⟨g, es, gs.length, ?_, Or.inl ((Kl.same s0).seq hg), by omega, fun hgood H1 s1' => ?_, fun i hi hb hj => (ke2 hok i hi hb hj).aft s0⟩
    · show [V.ref g, V.int (xs.length : Nat)] = _
      rw [lr]
    have k := kq hok hgood
    have s1 := s0.trans s1'
    clear s0 s1'
    have ho1 := s1 _ _ ho
    -- self.letters = values
    refine ⟨_, rfl, _, rfl, o, C, dx, [], rfl, ho1, T.cl, T.nL, (by show 0 < 1000; decide), ?_⟩
    have k2 : ∀ b u, H b = some u → b ≠ o → (L2.upd H1 o (.ins C dx (putF "letters" (.str z) []))) b = some u := fun b u h n => by rw [upd_ne n]; exact s1 b u h
    have ho2 : (L2.upd H1 o (.ins C dx (putF "letters" (.str z) []))) o = some (.ins C dx (putF "letters" (.str z) [])) := upd_same
    revert k2 ho2
    generalize L2.upd H1 o (.ins C dx (putF "letters" (.str z) [])) = H2
    intro k2 ho2
    have kl2 : Kl H H2 := fun b u h d => k2 b u h fun q => by rw [q, ho] at h; cases h; exact d
    -- self.rows = ..
    refine ⟨_, rfl, r, xs, rfl, hr1.kl kl2, fun J hJ D hD => lc_it hJ (fun i H4 => ∃ vs : List V, H4 D = some (.lst vs) ∧ DpAll K (L2.del H4 D) vs ((gs.take i).map intsT) ∧ Same H2 H4)
      ⟨[], upd_same, .nil, same_new hD⟩ (fun i H4 _ ⟨_, _, _, s4⟩ => GSq.same s4) ?_ ?_⟩
    · rintro i x H4' H4 hi ⟨vs, hD4, hd4, s4⟩ ⟨rfl, hx⟩
      have hi' : i < gs.length := by omega
      obtain ⟨w5, rfl, hw1⟩ := hrow i hi' x hx
      have hri := hrl _ (List.getElem_mem hi')
      have kl4 : Kl H H4 := kl2.trans (Kl.same s4)
      refine ⟨rfl, ?_⟩
      refine lcYes ?_
      have hvl : vs.length < sizeLine := by rw [hd4.length, List.length_map, List.length_take]; exact small1000 (by omega)
      rcases hw1 with hw1 | hw1
      · refine ⟨_, rfl, w5, _, rfl, Or.inl ⟨kl4.seq hw1, fun t ht => ⟨vs, ?_, hvl, vs ++ [.ref t], upd_same, ?_, ?_⟩⟩⟩
        · rw [upd_ne (ne_of_none hD4 ht)]; exact hD4
        · have ntD : t ≠ D := (ne_of_none hD4 ht).symm
          have e0 : Kl (L2.del H4 D) (L2.del (L2.upd (L2.upd H4 t (.tup (gs[i].map V.int))) D (.lst (vs ++ [.ref t]))) D) := fun b o e _ => by
            obtain ⟨h1, h2⟩ := del_some e
            rw [del_ne h1, upd_ne h1, upd_ne (ne_of_none h2 ht)]
            exact h2
          rw [take_more hi', List.map_append]
          refine (hd4.mv e0).snoc (.tup (xs := gs[i].map V.int) (SqT.of ?_) (dpAll_ints K _ _))
          rw [del_ne ntD, upd_ne ntD, upd_same]
        · exact (s4.trans (same_new ht)).put hD
      · have hw4 := kl4.seqT hw1
        refine ⟨_, rfl, w5, _, rfl, Or.inr ⟨hw4, vs, hD4, hvl, vs ++ [.ref w5], upd_same, ?_, s4.put hD⟩⟩
        have e0 : Kl (L2.del H4 D) (L2.del (L2.upd H4 D (.lst (vs ++ [.ref w5]))) D) := fun b o e _ => by
          obtain ⟨h1, h2⟩ := del_some e
          rw [del_ne h1, upd_ne h1]
          exact h2
        rw [take_more hi', List.map_append]
        refine (hd4.mv e0).snoc (.tup (xs := gs[i].map V.int) ?_ (dpAll_ints K _ _))
        rcases hw4 with (h | ⟨o', h⟩) | h
        · have n : w5 ≠ D := ne_of h hD4 (fun z => nomatch z)
          exact Or.inl (Or.inl (by rw [del_ne n, upd_ne n]; exact h))
        · have n : w5 ≠ D := ne_of h hD4 (fun z => nomatch z)
          exact Or.inl (Or.inr ⟨o', by rw [del_ne n, upd_ne n]; exact h⟩)
        · exact Or.inr h
    · rintro H4 ⟨vs, hD4, hd4, s4⟩
      rw [lr, List.take_of_length_le (Nat.le_refl _)] at hd4
      refine ⟨D, vs, rfl, Or.inl ⟨SqL.of hD4, fun t ht => ?_⟩⟩
      have s5 : Same H2 (L2.upd H4 t (.tup vs)) := s4.trans (same_new ht)
      have hT : Dp K (L2.upd H4 t (.tup vs)) (.ref t) (rowsIT gs) := .tup (SqT.of upd_same) (hd4.mv ((Kl.undel _ _).trans (Kl.same (same_new ht))))
      revert s5 hT
      generalize L2.upd H4 t (.tup vs) = H5
      intro s5 hT
      have ho5 := s5 _ _ ho2
      refine ⟨_, rfl, o, C, dx, _, rfl, ho5, T.cl, T.nR, (by show 1 < 1000; decide), ?_⟩
      -- self.good = tuple(sorted(set(good)))
      have hnko : ∀ b u, H b = some u → b ≠ o → (L2.upd H5 o (.ins C dx (putF "rows" (.ref t) (putF "letters" (.str z) [])))) b = some u := fun b u h n => by rw [upd_ne n]; exact s5 _ _ (k2 b u h n)
      have hT6 : Dp K (L2.upd H5 o (.ins C dx (putF "rows" (.ref t) (putF "letters" (.str z) [])))) (.ref t) (rowsIT gs) := hT.mv fun b u h d => by
        rw [upd_ne (fun q => by rw [q, ho5] at h; cases h; exact d)]; exact h
      have ho6 : (L2.upd H5 o (.ins C dx (putF "rows" (.ref t) (putF "letters" (.str z) [])))) o = some (.ins C dx (putF "rows" (.ref t) (putF "letters" (.str z) []))) := upd_same
      revert hnko hT6 ho6
      generalize L2.upd H5 o (.ins C dx (putF "rows" (.ref t) (putF "letters" (.str z) []))) = H6
      intro hnko hT6 ho6
      have kl6 : Kl H H6 := fun b u h d => hnko b u h fun q => by rw [q, ho] at h; cases h; exact d
      refine ⟨_, rfl, g, es, rfl, kl6.seq hg, by omega, fun p n hp hn => ?_⟩
      refine ⟨p, _, n, rfl, upd_same, by omega, fun ns q hu hm hnl hq => ?_⟩
      refine ⟨q, _, rfl, Or.inl ⟨SqL.of upd_same, fun a ha => ?_⟩⟩
      have nqp : q ≠ p := (ne_of_none upd_same hq).symm
      have hq6 : H6 q = none := by rw [upd_ne nqp] at hq; exact hq
      have s7 : Same H6 (L2.upd (L2.upd (L2.upd H6 p (SetO w p (fun j => decide (j ∈ es)) n)) q (.lst (ns.map V.int))) a (.tup (ns.map V.int))) := ((same_new hp).trans (same_new hq)).trans (same_new ha)
      have ha7 : (L2.upd (L2.upd (L2.upd H6 p (SetO w p (fun j => decide (j ∈ es)) n)) q (.lst (ns.map V.int))) a (.tup (ns.map V.int))) a = some (.tup (ns.map V.int)) := upd_same
      have fin : ∀ H7 : Hp, Same H6 H7 → H7 a = some (.tup (ns.map V.int)) → Q .non (L2.upd H7 o (.ins C dx (sflds z (.ref t) (.ref a)))) := fun H7 s7 ha7 => by
        have kl8 : Kl H7 (L2.upd H7 o (.ins C dx (sflds z (.ref t) (.ref a)))) := fun b u h d => by
          rw [upd_ne (fun q => by rw [q, s7 _ _ ho6] at h; cases h; exact d)]; exact h
        refine k _ ns hu (fun x => by rw [hm x, decide_eq_true_eq]) ⟨dx, .ref t, .ref a, upd_same, (hT6.mv (Kl.same s7)).mv kl8, (Dp.tup (SqT.of ha7) (dpAll_ints K H7 ns)).mv kl8⟩ fun b u h n => ?_
        rw [upd_ne n]
        exact s7 _ _ (hnko b u h n)
      exact ⟨_, rfl, o, C, dx, _, rfl, s7 _ _ ho6, T.cl, T.nG, (by show 2 < 1000; decide), fin _ s7 ha7⟩
end
end Vf
set_option Elab.async false
set_option linter.all false
set_option maxRecDepth 100000
set_option maxHeartbeats 4000000
/-! == and len by an own __eq__, __len__: any answer -/
namespace Vf
open PySem PySem.Spec PyProof.Rows L2
section
variable {X : Cx} {CX : CXT} {n : Nat} {C f : Addr} {fd : FuncData} {ps : List Str} {sp : Sp} {E : XK}
theorem run_ok {A : Around} {pins : List (Addr × Obj)} {σ : L2.St} {H : Hp} {s : Shared} {us : List Value} {ws : List V} {Q : VK} (F : FnOk X.prog X.w X.K X.mg X.base CX n f fd ps sp) (hb : Binds X.K fd ps []) (hx : Passes CX X E) (sb : Sub X n A)
    (I : Inv X pins σ H s) (r : Vals ws us) (h : sp ws H Q E) : wpAny (model X.prog X.w) A (call (.ref f) us) (EP X pins σ Q) X.xe s := by
  have e0 : Env0 X.prog X.w X.K X.mg X.base A X.stack s H := by
    have e := I.env0
    exact ⟨by rw [sb.fr]; exact e.frames, e.mod, e.bs, e.bsz, e.funs, e.frf, e.hok, e.bare⟩
  have hl := F.len _ _ _ _ h
  refine wpAny_call (codeAny_mono (F.run A X.stack s H ⟨us, []⟩ us ws _ E sb.room e0 (by
    have hl2 : (us ++ []).length = ps.length := by rw [List.append_nil, ← r.length]; simpa using hl
    have := hb s us I.kIn hl2
    simpa using this) r h) fun r s' hq => ?_)
  cases r with
  | error e => exact hx pins σ H s e s' I hq
  | ok fl =>
    cases fl with
    | ret w => exact I.after hq
    | next => exact False.elim hq
    | brk => exact False.elim hq
    | cont => exact False.elim hq
/-- x op y, x an instance of the class at C whose def for op is at f; y another such instance -/
def rOwnI (C : Addr) (sp : Sp) (E : XK) : R2 := fun x y H Q => ∃ a dx fs b dy gs, x = .ref a ∧ y = .ref b ∧ H a = some (.ins C dx fs) ∧ H b = some (.ins C dy gs) ∧ sp [x, y] H Q E
theorem op_ownI {op : CmpOp} (hop : ∀ a b, compareOp op a b = richCompare op a b) (hs : PySem.W.findIn X.K (.ref C) (cmpInfo op).2.1 = some (some (.ref f))) (hf : PySem.W.isFn X.K (.ref f) = true) (F : FnOk X.prog X.w X.K X.mg X.base CX n f fd ps sp)
    (hr : Room n X.A) (hb : Binds X.K fd ps []) (hx : Passes CX X E) : OpR X (compareOp op) (rOwnI C sp E) := by
  intro pins s σ H x y v u Q I rx ry h
  obtain ⟨a, dx, fs, b, dy, gs, rfl, rfl, ha, hb', q⟩ := h
  cases (show v = Value.ref a from rx)
  cases (show u = Value.ref b from ry)
  obtain ⟨mA, J, _⟩ := ins_get I.hok ha
  obtain ⟨mB, J', _⟩ := ins_get I.hok hb'
  obtain ⟨od, J, _⟩ := J.look
  obtain ⟨od', J', _⟩ := J'.look
  obtain ⟨m, hF⟩ := I.fr
  rw [hop]
  refine PySem.W.cmp_K (op := op) (tb := .ref C) hr.units0 hF I.ok.mod.kin J J'.type (by simp [PySem.W.notFirst]) hs hf ?_
  refine wpAny_mono (run_ok (us := [.ref a, .ref b]) (ws := [.ref a, .ref b]) F hb hx ⟨hr, rfl⟩ I (.cons rfl (.cons rfl .nil)) q) (fun w s' z => ?_) fun _ _ x => x
  obtain ⟨z', H', I', rz, qz⟩ := z
  exact SlX.cmpback rz ⟨z', H', I', rz, qz⟩
/-- x op y, y a tuple -/
def rOwnT (K : PySem.W.Frag) (C : Addr) (sp : Sp) (E : XK) : R2 := fun x y H Q => ∃ a dx fs b ys, x = .ref a ∧ y = .ref b ∧ H a = some (.ins C dx fs) ∧ SqT K H b ys ∧ sp [x, y] H Q E
theorem op_ownT {op : CmpOp} (hop : ∀ a b, compareOp op a b = richCompare op a b) (hs : PySem.W.findIn X.K (.ref C) (cmpInfo op).2.1 = some (some (.ref f))) (hf : PySem.W.isFn X.K (.ref f) = true) (F : FnOk X.prog X.w X.K X.mg X.base CX n f fd ps sp)
    (hr : Room n X.A) (hb : Binds X.K fd ps []) (hx : Passes CX X E) (hn : PySem.W.subIn X.K (.type "tuple") (.ref C) = some false) : OpR X (compareOp op) (rOwnT X.K C sp E) := by
  intro pins s σ H x y v u Q I rx ry h
  obtain ⟨a, dx, fs, b, ys, rfl, rfl, ha, hb', q⟩ := h
  cases (show v = Value.ref a from rx)
  cases (show u = Value.ref b from ry)
  obtain ⟨mA, J, _⟩ := ins_get I.hok ha
  obtain ⟨od, J, _⟩ := J.look
  obtain ⟨m, hF⟩ := I.fr
  obtain ⟨its, r, ht, hz⟩ := I.tuple hb'
  obtain ⟨o, ho, hc, _⟩ := id ht
  have J' : PySem.W.Looks (model X.prog X.w) s.heap (typeOf (.ref b)) (.type "tuple") := fun A Q E s k q => wpAny_typeOf_ref (k _ _ ho) (by rw [hc]; exact q)
  rw [hop]
  refine PySem.W.cmp_K (op := op) (tb := .type "tuple") hr.units0 hF I.ok.mod.kin J J' (by simp [PySem.W.notFirst, hn]) hs hf ?_
  refine wpAny_mono (run_ok (us := [.ref a, .ref b]) (ws := [.ref a, .ref b]) F hb hx ⟨hr, rfl⟩ I (.cons rfl (.cons rfl .nil)) q) (fun w s' z => ?_) fun _ _ x => x
  obtain ⟨z', H', I', rz, qz⟩ := z
  exact SlX.cmpback rz ⟨z', H', I', rz, qz⟩
/-- len(x) by an own __len__ -/
def rLenI (C : Addr) (sp : Sp) (E : XK) : List V → Hp → VK → Prop := fun xs H Q => ∃ a dx fs, xs = [.ref a] ∧ H a = some (.ins C dx fs) ∧ sp [.ref a] H (fun z H' => ∃ k : Nat, z = .int k ∧ k ≤ sizeLine ∧ Q z H') E
theorem call_lenI (hs : PySem.W.findIn X.K (.ref C) "__len__" = some (some (.ref f))) (hf : PySem.W.isFn X.K (.ref f) = true) (F : FnOk X.prog X.w X.K X.mg X.base CX n f fd ps sp)
    (hr : Room (n + 1) X.A) (hb : Binds X.K fd ps []) (hx : Passes CX X E) : CallR X (.builtin "len") (rLenI C sp E) := by
  intro pins s σ H xs us Q I r h
  obtain ⟨a, dx, fs, rfl, ha, q⟩ := h
  obtain ⟨u, rfl, ru⟩ := vals1 r
  cases (show u = Value.ref a from ru)
  obtain ⟨mA, J, _⟩ := ins_get I.hok ha
  obtain ⟨od, J, _⟩ := J.look
  have hl := line63
  have hsz : sizeLine = 16777216 := sizeLine_eq
  refine Calls.call_function_entry PySem.kind_len PySem.plain_len PySem.entry_len (PySem.args_len1 _) ?_
  unfold Builtin.«len»
  refine wpAny_bind (m := oneArg "len" _) (wpAny_pure ?_)
  refine wpAny_bind (m := callSpecial? (.ref a) (PySem.Str.ofString "__len__")) (PySem.W.special_fn I.kIn J hs (beq_iff_eq.mp hf) (wpAny_mono (run_ok (us := [.ref a]) (ws := [.ref a]) F hb hx ?_ I (.cons rfl .nil) q) (fun w s' z => ?_) fun _ _ x => x))
  · exact ⟨hr.in1, rfl⟩
  · obtain ⟨z', H', I', rz, k, rfl, hk, qz⟩ := z
    obtain ⟨t, rfl⟩ := (show ∃ t, w = Value.int k t from rz)
    refine wpAny_bind (wpAny_holding (wpAny_pure ?_))
    refine wpAny_bind (wpAny_letGo ?_)
    show wpAny _ _ (if ((k : Nat) : Int) < 0 then _ else _) _ _ _
    rw [if_neg (by omega)]
    show wpAny _ _ (if ((k : Nat) : Int) ≥ 2 ^ 63 then _ else _) _ _ _
    rw [if_neg (by omega)]
    exact wpAny_bind (wpAny_mkInt (wpAny_pure ⟨_, rfl, .int k, H', I'.tok _, ⟨_, rfl⟩, qz⟩))
end
end Vf
set_option Elab.async false
set_option linter.all false
set_option maxRecDepth 100000
set_option maxHeartbeats 4000000
namespace Vf
open PySem L2 PyProof.Rows
def stepG (gs : List (List Int)) (L : List Nat) (s : Int) (c : Nat) : Int := (gs.getD s.toNat []).getD (L.idxOf c) 0
def walkG (gs : List (List Int)) (L : List Nat) (s : Int) (y : List Nat) : Int := y.foldl (stepG gs L) s
theorem walkG_more {gs : List (List Int)} {L y : List Nat} {s : Int} {i : Nat} (h : i < y.length) : walkG gs L s (y.take (i + 1)) = stepG gs L (walkG gs L s (y.take i)) y[i] := by
  unfold walkG
  rw [take_more h, List.foldl_append]
  rfl
theorem atG {m : Nat} {gs : List (List Int)} {s : Int} {k : Nat} (g : GoodRows m gs) (h0 : 0 ≤ s) (h1 : s < gs.length) (hk : k < m) : ∃ (g1 : s.toNat < gs.length) (g2 : k < gs[s.toNat].length), 0 ≤ gs[s.toNat][k] ∧ gs[s.toNat][k] < gs.length := by
  have g1 : s.toNat < gs.length := by omega
  have hb := g.1 s.toNat g1
  unfold badG at hb
  have e1 : gs[s.toNat].length = m := Classical.byContradiction fun q => hb (Or.inl q)
  have g2 : k < gs[s.toNat].length := by rw [e1]; exact hk
  have e2 : 0 ≤ gs[s.toNat][k] ∧ gs[s.toNat][k] < gs.length := Classical.byContradiction fun q => hb (Or.inr ⟨_, List.getElem_mem g2, q⟩)
  exact ⟨g1, g2, e2.1, e2.2⟩
theorem stepG_eq {gs : List (List Int)} {L : List Nat} {s : Int} {c : Nat} (g1 : s.toNat < gs.length) (g2 : L.idxOf c < gs[s.toNat].length) : stepG gs L s c = gs[s.toNat][L.idxOf c] := by
  have e : gs.getD s.toNat [] = gs[s.toNat] := by rw [List.getD_eq_getElem?_getD, List.getElem?_eq_getElem g1, Option.getD_some]
  unfold stepG
  rw [e, List.getD_eq_getElem?_getD, List.getElem?_eq_getElem g2, Option.getD_some]
theorem stepG_ok {gs : List (List Int)} {L : List Nat} {s : Int} {c : Nat} (g : GoodRows L.length gs) (h0 : 0 ≤ s) (h1 : s < gs.length) (hc : c ∈ L) : 0 ≤ stepG gs L s c ∧ stepG gs L s c < gs.length := by
  obtain ⟨g1, g2, g3, g4⟩ := atG g h0 h1 (idx_lt hc)
  rw [stepG_eq g1 g2]
  exact ⟨g3, g4⟩
theorem walkG_ok {gs : List (List Int)} {L : List Nat} (g : GoodRows L.length gs) : ∀ {y : List Nat} {s : Int}, 0 ≤ s → s < gs.length → (∀ c ∈ y, c ∈ L) → 0 ≤ walkG gs L s y ∧ walkG gs L s y < gs.length
  | [], s, h0, h1, _ => ⟨h0, h1⟩
  | c :: y, s, h0, h1, hy => by
    obtain ⟨a, b⟩ := stepG_ok g h0 h1 (hy c List.mem_cons_self)
    exact walkG_ok (s := stepG gs L s c) (y := y) g a b fun d hd => hy d (List.mem_cons_of_mem _ hd)
theorem ShapeAt.same {K : PySem.W.Frag} {C o : Addr} {H H' : Hp} {z : Str} {rs : List (List Int)} {es : List Int} (c : ShapeAt K C H o z rs es) (s : Same H H') : ShapeAt K C H' o z rs es := by
  obtain ⟨dx, R, E, h1, h2, h3⟩ := c
  exact ⟨dx, R, E, s _ _ h1, h2.mv (Kl.same s), h3.mv (Kl.same s)⟩
theorem strange_none {z y : Str} (h : strange z y = none) : ∀ c ∈ TL.tl y, c ∈ TL.tl z := fun c hc => by
  have := List.findIdx?_eq_none_iff.mp h c hc
  simpa using this
theorem inV_int (x : Int) : ∀ es : List Int, inV (.int x) (es.map V.int) = decide (x ∈ es)
  | [] => rfl
  | e :: es => by
    have ih := inV_int x es
    unfold inV at ih ⊢
    rw [List.map_cons, List.any_cons, ih, Bool.eq_iff_iff]
    by_cases h : x = e
    · subst h; simp [eqV]
    · have h2 : ¬ e = x := fun q => h q.symm
      simp [eqV, h, h2]
theorem flat_ints (es : List Int) : (es.map V.int).all flatV = true := by
  rw [List.all_map, List.all_eq_true]
  exact fun _ _ => rfl
/-- what the methods ask of the class -/
structure TxtSM (K : PySem.W.Frag) (mg : Str → Option Value) (C fCG fCD B CB fB' fSP fSt fEq fLn : Addr) : Prop extends TxtS K mg C fCG fCD B CB fB' where
  mstrange_place : mg "strange_place" = some (.ref fSP)
  kstrange_place : PySem.W.keepIn K (.ref fSP) = true
  mtSt : Meth K C "step" fSt
  isinstance : mg "isinstance" = none
  ca : PySem.W.findIn K (.ref C) "__class__" = some (some (.builtin "object.__class__"))
  cn : PySem.W.specialIn K (.builtin "object.__class__") "__get__" = some (some (.builtin "getset_descriptor.__get__"))
  ct : PySem.W.takesIn K (.builtin "object.__class__") = some true
  cm : PySem.W.mroIn K C (.type "object") = some true
  kc : PySem.W.kitOne K (.ref C) (.ref C) = some true
  eqs : PySem.W.findIn K (.ref C) "__eq__" = some (some (.ref fEq))
  eqf : PySem.W.isFn K (.ref fEq) = true
  lns : PySem.W.findIn K (.ref C) "__len__" = some (some (.ref fLn))
  lnf : PySem.W.isFn K (.ref fLn) = true
section
variable {P : Program} {w : World} {K : PySem.W.Frag} {mg : Str → Option Value} {base : Heap}
def spLnS (K : PySem.W.Frag) (C : Addr) : Sp := fun vs H Q _ => ∃ (o : Addr) (z : Str) (rs : List (List Int)) (es : List Int), vs = [.ref o] ∧ ShapeAt K C H o z rs es ∧ ∀ H', Same H H' → Q (.int rs.length) H'
abbrev s_Shape___len__ : Stmt := inClass (top 15) 2
abbrev N_Shape___len__ : List Str := ["self"]
abbrev P_Shape___len__ : List Str := ["self"]
theorem sc_Shape___len__ : FnScope N_Shape___len__ P_Shape___len__ (defScope s_Shape___len__) := ⟨rfl, rfl, rfl, by decide +kernel, rfl, by decide +kernel, by decide +kernel⟩

theorem ok_lnS {f C fCG fCD B CB fB' : Addr} {fd : FuncData} (F : Fun K "__len__" "Shape.__len__" s_Shape___len__ f fd) (T : TxtS K mg C fCG fCD B CB fB') : FnOk P w K mg base CX0 1 f fd P_Shape___len__ (spLnS K C) := by
  refine F.ok sc_Shape___len__ (fun vs H Q E h => ?_) (fun cdv A outer s H vs Q E hr h => ?_)
  · obtain ⟨o, z, rs, es, rfl, _⟩ := h
    rfl
  · obtain ⟨o, z, rs, es, rfl, ⟨dx, R, Ev, ho, hR, hE⟩, k⟩ := h
    refine ⟨_, (pss_one (ps_ret (pe_callB call_len (by rfl) T.len PySem.boot_len (pa_cons (pe_fld (pv 0) rfl) pa_nil)))), ?_⟩
    obtain ⟨r, xs, rfl, h1, h2⟩ := hR.tupE
    refine ⟨_, rfl, o, C, dx, _, _, rfl, ho, T.cl, T.nR, sf_rows _ _ _, _, _, rfl, Or.inr ⟨_, h1, rfl⟩, ?_⟩
    rw [show xs.length = rs.length by rw [h2.length, List.length_map]]
    exact k H (Same.refl H)
def spEqS (K : PySem.W.Frag) (C : Addr) : Sp := fun vs H Q _ => ∃ (o o2 : Addr) (z z2 : Str) (rs rs2 : List (List Int)) (es es2 : List Int), vs = [.ref o, .ref o2] ∧ ShapeAt K C H o z rs es ∧ ShapeAt K C H o2 z2 rs2 es2 ∧
  ∀ H', Same H H' → Q (.bl (decide (z = z2) && (decide (rs = rs2) && decide (es = es2)))) H'
abbrev s_Shape___eq__ : Stmt := inClass (top 15) 1
abbrev N_Shape___eq__ : List Str := ["self", "other"]
abbrev P_Shape___eq__ : List Str := ["self", "other"]
theorem sc_Shape___eq__ : FnScope N_Shape___eq__ P_Shape___eq__ (defScope s_Shape___eq__) := ⟨rfl, rfl, rfl, by decide +kernel, rfl, by decide +kernel, by decide +kernel⟩

theorem ok_eqS {f C fCG fCD B CB fB' fSP fSt fEq fLn : Addr} {fd : FuncData} (F : Fun K "__eq__" "Shape.__eq__" s_Shape___eq__ f fd) (T : TxtSM K mg C fCG fCD B CB fB' fSP fSt fEq fLn) : FnOk P w K mg base CX0 1 f fd P_Shape___eq__ (spEqS K C) := by
  refine F.ok sc_Shape___eq__ (fun vs H Q E h => ?_) (fun cdv A outer s H vs Q E hr h => ?_)
  · obtain ⟨o, o2, z, z2, rs, rs2, es, es2, rfl, _⟩ := h
    rfl
  · obtain ⟨o, o2, z, z2, rs, rs2, es, es2, rfl, ⟨dx, R, Ev, ho, hR, hE⟩, ⟨dx2, R2, Ev2, ho2, hR2, hE2⟩, k⟩ := h
    refine ⟨_, (pss_one (ps_ret (pe_and (pe_callB call_isi (by rfl) T.isinstance boot_isinstance (pa_cons (pv 1) (pa_cons (pe_glob (by rfl) T.mgShape (v := .ref C) rfl) pa_nil))) (pe_and (pe_cmpR op_eq (pe_fld (pv 0) rfl) (pe_fld (pv 1) rfl) (nomark _)) (pe_and (pe_cmpR (op_eqD hr.units) (pe_fld (pv 0) rfl) (pe_fld (pv 1) rfl) (nomark _)) (pe_one (pe_cmpR (op_eqD hr.units) (pe_fld (pv 0) rfl) (pe_fld (pv 1) rfl) (nomark _)))))))), ?_⟩
    refine ⟨_, rfl, _, _, _, _, _, rfl, .own C, .base (.ins ho2 T.cl T.ca T.cn T.ct T.cm), T.kc, true, rfl, ?_⟩
    rw [if_pos rfl]
    refine ⟨_, rfl, o, C, dx, _, _, rfl, ho, T.cl, T.nL, sf_letters _ _ _, _, rfl, o2, C, dx2, _, _, rfl, ho2, T.cl, T.nL, sf_letters _ _ _, rfl, _, rfl, ?_⟩
    by_cases hz : z = z2
    · rw [if_pos (decide_eq_true (congrArg V.str hz))]
      refine ⟨_, rfl, o, C, dx, _, _, rfl, ho, T.cl, T.nR, sf_rows _ _ _, _, rfl, o2, C, dx2, _, _, rfl, ho2, T.cl, T.nR, sf_rows _ _ _, rowsIT rs, rowsIT rs2, hR, hR2, shaped_rowsIT _, shaped_rowsIT _, _, rfl, ?_⟩
      rw [eqv_rowsIT]
      by_cases hr2 : rs = rs2
      · rw [if_pos (decide_eq_true hr2)]
        refine ⟨_, rfl, o, C, dx, _, _, rfl, ho, T.cl, T.nG, sf_good _ _ _, _, rfl, o2, C, dx2, _, _, rfl, ho2, T.cl, T.nG, sf_good _ _ _, intsT es, intsT es2, hE, hE2, shaped_intsT _, shaped_intsT _, ?_⟩
        rw [eqv_intsT]
        have := k H (Same.refl H)
        rw [decide_eq_true hz, decide_eq_true hr2, Bool.true_and, Bool.true_and] at this
        exact this
      · rw [if_neg (by simpa using hr2)]
        have := k H (Same.refl H)
        rw [decide_eq_true hz, decide_eq_false hr2, Bool.true_and, Bool.false_and] at this
        exact this
    · rw [if_neg (by simpa using hz)]
      have := k H (Same.refl H)
      rw [decide_eq_false hz, Bool.false_and] at this
      exact this
def spStepS (K : PySem.W.Frag) (C : Addr) : Sp := fun vs H Q _ => ∃ (o : Addr) (s : Int) (z : Str) (c : Nat) (gs : List (List Int)) (es : List Int), vs = [.ref o, .int s, .str (sg c)] ∧ ShapeAt K C H o z gs es ∧ GoodRows z.length gs ∧ c ∈ TL.tl z ∧ 0 ≤ s ∧ s < gs.length ∧
  ∀ H', Same H H' → Q (.int (stepG gs (TL.tl z) s c)) H'
abbrev s_Shape_step : Stmt := inClass (top 15) 6
abbrev N_Shape_step : List Str := ["self", "state", "value"]
abbrev P_Shape_step : List Str := ["self", "state", "value"]
theorem sc_Shape_step : FnScope N_Shape_step P_Shape_step (defScope s_Shape_step) := ⟨rfl, rfl, rfl, by decide +kernel, rfl, by decide +kernel, by decide +kernel⟩

theorem ok_stepS {f C fCG fCD B CB fB' : Addr} {fd : FuncData} (F : Fun K "step" "Shape.step" s_Shape_step f fd) (T : TxtS K mg C fCG fCD B CB fB') : FnOk P w K mg base CX0 1 f fd P_Shape_step (spStepS K C) := by
  refine F.ok sc_Shape_step (fun vs H Q E h => ?_) (fun cdv A outer s H vs Q E hr h => ?_)
  · obtain ⟨o, s, z, c, gs, es, rfl, _⟩ := h
    rfl
  · obtain ⟨o, s0, z, c, gs, es, rfl, ⟨dx, R, Ev, ho, hR, hE⟩, hg, hc, h0, h1, k⟩ := h
    refine ⟨_, (pss_one (ps_ret (pe_ix ix_tup (pe_ix ix_tup (pe_fld (pv 0) rfl) (pv 1) (fun _ _ => rfl)) (pe_m1 PySem.F.slot_str_find PySem.F.type_str_find mt_find (pe_fld (pv 0) rfl) (pv 2)) (fun _ _ => rfl)))), ?_⟩
    obtain ⟨ra, xs, rfl, hR1, hR2⟩ := hR.tupE
    have lz : (TL.tl z).length = z.length := (TL.len_tl z).symm
    obtain ⟨g1, g2, g3, g4⟩ := atG (k := (TL.tl z).idxOf c) hg h0 h1 (by rw [← lz]; exact idx_lt hc)
    obtain ⟨v, hv, hrow⟩ := hR2.get (i := s0.toNat) (d := intsT gs[s0.toNat]) (by rw [List.getElem?_map, List.getElem?_eq_getElem g1]; rfl)
    obtain ⟨w5, ts, rfl, hw1, hw2⟩ := hrow.tupE
    obtain rfl := dpAll_intsE hw2
    refine ⟨_, rfl, o, C, dx, _, _, rfl, ho, T.cl, T.nR, sf_rows _ _ _, _, rfl, ra, xs, s0, _, rfl, rfl, hR1, at_of (Int.toNat_of_nonneg h0).symm hv, ?_⟩
    refine ⟨_, rfl, o, C, dx, _, _, rfl, ho, T.cl, T.nL, sf_letters _ _ _, ⟨_, rfl⟩, _, rfl, z, sg c, rfl, rfl, ?_⟩
    rw [find_sg hc]
    refine ⟨w5, _, _, .int (gs[s0.toNat][(TL.tl z).idxOf c]), rfl, rfl, hw1, at_of rfl (by rw [List.getElem?_map, List.getElem?_eq_getElem g2]; rfl), ?_⟩
    have := k H (Same.refl H)
    rw [stepG_eq g1 g2] at this
    exact this
def spHas (K : PySem.W.Frag) (C : Addr) : Sp := fun vs H Q _ => ∃ (o : Addr) (z y : Str) (gs : List (List Int)) (es : List Int), vs = [.ref o, .str y] ∧ ShapeAt K C H o z gs es ∧ GoodRows z.length gs ∧
  ((∃ i, strange z y = some i) → ∀ H', Same H H' → Q (.bl false) H') ∧ (strange z y = none → ∀ H', Same H H' → Q (.bl (decide (walkG gs (TL.tl z) 0 (TL.tl y) ∈ es))) H')
abbrev s_Shape_has : Stmt := inClass (top 15) 5
abbrev N_Shape_has : List Str := ["self", "column", "state", "letter"]
abbrev P_Shape_has : List Str := ["self", "column"]
theorem sc_Shape_has : FnScope N_Shape_has P_Shape_has (defScope s_Shape_has) := ⟨rfl, rfl, rfl, by decide +kernel, rfl, by decide +kernel, by decide +kernel⟩

theorem ok_has {f C fCG fCD B CB fB' fSP fSt fEq fLn : Addr} {fd fdSP fdSt : FuncData} (F : Fun K "has" "Shape.has" s_Shape_has f fd) (T : TxtSM K mg C fCG fCD B CB fB' fSP fSt fEq fLn) (FSP : Fun K "strange_place" "strange_place" s_strange_place fSP fdSP) (bstrange_place : Binds K fdSP P_strange_place [])
    (FSt : Fun K "step" "Shape.step" s_Shape_step fSt fdSt) (bSt : Binds K fdSt P_Shape_step []) : FnOk P w K mg base CX0 2 f fd P_Shape_has (spHas K C) := by
  have Gstrange_place : FnOk P w K mg base CX0 1 fSP fdSP P_strange_place spStrange := ok_strange FSP ⟨T.enumerate⟩
  have GSt : FnOk P w K mg base CX0 1 fSt fdSt P_Shape_step (spStepS K C) := ok_stepS FSt T.toTxtS
  refine F.ok sc_Shape_has (fun vs H Q E h => ?_) (fun cdv A outer s H vs Q E hr h => ?_)
  · obtain ⟨o, z, y, gs, es, rfl, _⟩ := h
    rfl
  · obtain ⟨o, z, y, gs, es, rfl, hS, hg, k1, k2⟩ := h
    refine ⟨_, (pss_cons (ps_if (pt_cmpR op_notN (pe_call Gstrange_place (hr.mono (by decide)) (by rfl) T.mstrange_place T.kstrange_place bstrange_place .nil pass0 (pa_cons (pe_fld (pv 0) rfl) (pa_cons (pv 1) pa_nil))) pe_non (nomark _)) (pss_one (ps_ret pe_bl)) pss_nil)
      (pss_cons (ps_set (i := 2) sc_Shape_has.nd rfl (Or.inl rfl) pe_int)
      (pss_cons (ps_for PassesOwn.never rfl (pi_str (pv 1)) (pg_name (i := 3) sc_Shape_has.nd rfl (Or.inl rfl)) (pss_one (ps_set (i := 2) sc_Shape_has.nd rfl (Or.inl rfl) (pe_meth (pv 0) T.cl T.mtSt GSt (hr.mono (by decide)) bSt .nil pass0 (pa_cons (pv 2) (pa_cons (pv 3) pa_nil))))))
      (pss_one (ps_ret (pe_cmpR op_in_seq (pv 2) (pe_fld (pv 0) rfl) (by rfl))))))), ?_⟩
    obtain ⟨dx, R, Ev, ho, hR, hE⟩ := id hS
    have lz : (TL.tl z).length = z.length := (TL.len_tl z).symm
    refine ⟨_, rfl, o, C, dx, _, _, rfl, ho, T.cl, T.nL, sf_letters _ _ _, _, rfl, z, y, rfl, fun H1 s1 => ?_⟩
    refine ⟨rfl, _, rfl, ?_⟩
    cases hs : strange z y with
    | some i => exact k1 ⟨i, hs⟩ H1 s1
    | none =>
      have hy := strange_none hs
      refine ⟨_, rfl, y, rfl, for_it walk_strS (fun i σ H2 => ∃ v3 : Option V, σ = [some (.ref o), some (.str y), some (.int (walkG gs (TL.tl z) 0 ((TL.tl y).take i))), v3] ∧ Same H H2)
        ⟨none, rfl, s1⟩ (fun _ _ _ _ _ => trivial) ?_ ?_⟩
      · rintro i x σ H3 H2 hi ⟨v3, rfl, s2⟩ ⟨rfl, c, hc, rfl⟩
        obtain ⟨hlt, hce⟩ := List.getElem?_eq_some_iff.mp hc
        have hcz : c ∈ TL.tl z := hy c (by rw [← hce]; exact List.getElem_mem hlt)
        have hg' : GoodRows (TL.tl z).length gs := by rw [lz]; exact hg
        obtain ⟨a0, a1⟩ := walkG_ok (s := 0) (y := (TL.tl y).take i) hg' (Int.le_refl 0) (by have := hg.2; omega) fun d hd => hy d (List.mem_of_mem_take hd)
        refine ⟨_, rfl, o, dx, _, rfl, s2 _ _ ho, sf_no _ _ _ (by decide +kernel) (by decide +kernel) (by decide +kernel), _, rfl, _, rfl, o, _, z, c, gs, es, rfl, hS.same s2, hg, hcz, a0, a1, fun H4 s4 => ?_⟩
        refine ⟨some (.str (sg c)), ?_, s2.trans s4⟩
        rw [walkG_more hlt, hce]
        rfl
      · rintro σ H2 ⟨v3, rfl, s2⟩
        obtain ⟨dx', R', Ev', ho', hR', hE'⟩ := hS.same s2
        obtain ⟨e, xs, rfl, he1, he2⟩ := hE'.tupE
        obtain rfl := dpAll_intsE he2
        refine ⟨_, rfl, _, rfl, o, C, dx', _, _, rfl, ho', T.cl, T.nG, sf_good _ _ _, e, _, rfl, Or.inr he1, rfl, flat_ints es, ?_⟩
        have := k2 hs H2 s2
        rw [TL.len_tl, List.take_length, ]
        show Q (.bl (inV _ _)) H2
        rw [inV_int]
        exact this
end
end Vf
set_option Elab.async false
set_option linter.all false
set_option maxRecDepth 100000
set_option maxHeartbeats 4000000
/-! C(..) in a try: what is raised is wished for at the caller's slots -/
namespace L2
open PySem PySem.Spec PyProof.Rows
section
variable {X : Cx} {CX : CXT} {k : Nat} {f C : Addr} {fd : FuncData} {ps : List Str} {sp : Sp} {dvs : List V} {ds : List Value} {E : St → XK} {x : Str} {p pos : Pos} {e : Expr} {es : List Expr} {t : TA}
theorem run_makeV {pins : List (Addr × Obj)} {σ : St} {H : Hp} {s : Shared} {Q : VK} {us : List Value} {vs : List V} (M : Mk X.K C f) (F : FnOk X.prog X.w X.K X.mg X.base CX k f fd ps sp) (hr : Room (k + 1) X.A) (hb : Binds X.K fd ps ds) (hd : Vals dvs ds)
    (hx : PassesAt CX X σ (E σ)) (I : Inv X pins σ H s) (r : Vals vs us)
    (h : ∀ x dx, H x = none → H dx = none → dx ≠ x → sp (.ref x :: (vs ++ dvs)) (upd (upd H dx (.own x)) x (.ins C dx [])) (fun v H2 => v = .non ∧ Q (.ref x) H2) (E σ)) :
    wpAny (model X.prog X.w) X.A (call (.ref C) us) (EP X pins σ Q) X.xe s := by
  have hq := h (s.heap.objs.size + 1) s.heap.objs.size (I.hok.fresh (Nat.le_succ _)) (I.hok.fresh (Nat.le_refl _)) (Nat.ne_of_lt (Nat.lt_succ_self _))
  have I2 := Inv.made (C := C) I
  have r2 : Vals (V.ref (s.heap.objs.size + 1) :: (vs ++ dvs)) (Value.ref (s.heap.objs.size + 1) :: (us ++ ds)) := .cons rfl (r.append hd)
  have hl : (Value.ref (s.heap.objs.size + 1) :: us ++ ds).length = ps.length := by
    have e := r2.length
    rw [F.len _ _ _ _ hq] at e
    exact e.symm
  refine wpAny_call (make_map (f := f) I.kIn M.makes M.init (beq_iff_eq.mp M.fn) (codeAny_mono (F.run _ X.stack _ _ ⟨Value.ref (s.heap.objs.size + 1) :: us, []⟩ (Value.ref (s.heap.objs.size + 1) :: (us ++ ds)) _ _ (E σ) (hr.make C us [])
    (I2.env0.make C us []) (hb _ (Value.ref (s.heap.objs.size + 1) :: us) I2.kIn hl) r2 hq) fun r s' hq' => ?_))
  cases r with
  | error e => exact hx pins _ _ e s' I2 hq'
  | ok fl =>
    cases fl with
    | ret u =>
      obtain ⟨v, H', I3, rv, ev, q3⟩ := I2.after hq'
      subst ev
      exact ⟨rv, ⟨V.ref (s.heap.objs.size + 1), H', I3, rfl, q3⟩⟩
    | next => exact False.elim hq'
    | brk => exact False.elim hq'
    | cont => exact False.elim hq'
def tMakeV (C : Addr) (sp : Sp) (dvs : List V) (E : St → XK) (t : TA) : TE := fun σ H Q => t σ H fun vs H1 => ∀ x dx, H1 x = none → H1 dx = none → dx ≠ x →
  sp (.ref x :: (vs ++ dvs)) (upd (upd H1 dx (.own x)) x (.ins C dx [])) (fun v H2 => v = .non ∧ Q (.ref x) H2) (E σ)
theorem pe_makeV (M : Mk X.K C f) (F : FnOk X.prog X.w X.K X.mg X.base CX k f fd ps sp) (hr : Room (k + 1) X.A) (hg : Gl X x) (hm : X.mg x = some (.ref C)) (hb : Binds X.K fd ps ds) (hd : Vals dvs ds) (hx : ∀ σ, PassesAt CX X σ (E σ))
    (ha : PA X (e :: es) t) (hdb : (x == ("__debug__" : Str)) = false := by decide) (he : starEach (e :: es) X.env = (false, eval e X.env) :: starEach es X.env := by rfl) (hpl : (backTo pos (starEach es X.env)).any (·.1) = false := by rfl) :
    PE X (.Call (.Name x p) (e :: es) [] pos) (tMakeV C sp dvs E t) := by
  refine ⟨fun pins s σ H Q I h => ?_⟩
  refine wpAny_Call_Name_kw (ld_glob I hg hm ?_ hdb)
  refine PySem.W.callWith_K (h₀ := X.base) I.ok.mod.kin M.kp (thn (ha.run pos pins s σ H _ I h) fun us s1 ⟨vs, H1, I1, r, q⟩ => ⟨I1.kIn, ?_⟩) he hpl
  exact run_makeV M F hr hb hd (hx σ) I1 r q
end
end L2
set_option Elab.async false
set_option linter.all false
set_option maxRecDepth 100000
set_option maxHeartbeats 4000000
/-! what a made code pays -/
namespace Vf
open PySem L2 PyProof.Rows
section
variable {κ : Type} [DecidableEq κ]
theorem num_pre {l l' : List κ} {k : κ} (h : k ∈ l) (p : l <+: l') : num l' k = num l k := by
  obtain ⟨t, rfl⟩ := p
  unfold num
  rw [List.idxOf_append, if_pos h]
theorem num_get {l : List κ} {k : κ} (h : k ∈ l) : l[num l k]? = some k := by
  have hl := num_lt h
  rw [List.getElem?_eq_getElem hl]
  congr 1
  exact List.getElem_idxOf hl
theorem num_of {l : List κ} {k : κ} {i : Nat} (hn : l.Nodup) (h : l[i]? = some k) : num l k = i := by
  obtain ⟨hi, e⟩ := List.getElem?_eq_some_iff.mp h
  have hm : k ∈ l := List.mem_of_getElem? h
  have hl := num_lt hm
  have e2 : l[num l k] = k := List.getElem_idxOf hl
  exact (List.getElem_inj hn).mp (e2.trans e.symm)
theorem rowOf_eq (st : κ → Nat → κ) (m : κ) : ∀ (L : List Nat) (p : List κ × List Nat), (rowOf st m L p).2 = p.2 ++ L.map (fun c => num (rowOf st m L p).1 (st m c)) ∧ ∀ c ∈ L, st m c ∈ (rowOf st m L p).1
  | [], p => ⟨by simp [rowOf], fun c h => nomatch h⟩
  | c :: cs, (ks, row) => by
    obtain ⟨h1, h2⟩ := rowOf_eq st m cs (add1 ks (st m c), row ++ [num (add1 ks (st m c)) (st m c)])
    have hp := rowOf_pre st m cs (add1 ks (st m c), row ++ [num (add1 ks (st m c)) (st m c)])
    have hm : st m c ∈ add1 ks (st m c) := add1_mem
    refine ⟨?_, fun d hd => ?_⟩
    · show (rowOf st m cs (add1 ks (st m c), row ++ [num (add1 ks (st m c)) (st m c)])).2 = row ++ (c :: cs).map (fun c' => num (rowOf st m cs (add1 ks (st m c), row ++ [num (add1 ks (st m c)) (st m c)])).1 (st m c'))
      rw [h1, List.map_cons, num_pre hm hp]
      simp
    · rcases List.mem_cons.mp hd with e | e
      · rw [e]; exact hp.subset hm
      · exact h2 d e
theorem turns_eq (st : κ → Nat → κ) (L : List Nat) (s0 : κ) : ∀ (n i : Nat) (row : List Nat), (turns st L s0 n).2[i]? = some row → ∃ m, (turns st L s0 n).1[i]? = some m ∧ row = L.map (fun c => num (turns st L s0 n).1 (st m c)) ∧ ∀ c ∈ L, st m c ∈ (turns st L s0 n).1
  | 0, i, row, h => by simp [turns] at h
  | n + 1, i, row, h => by
    have ih := turns_eq st L s0 n
    have hrl := turns_rows_le st L s0 n
    revert h
    show (turn st L (turns st L s0 n)).2[i]? = some row → ∃ m, (turn st L (turns st L s0 n)).1[i]? = some m ∧ row = L.map (fun c => num (turn st L (turns st L s0 n)).1 (st m c)) ∧ ∀ c ∈ L, st m c ∈ (turn st L (turns st L s0 n)).1
    have hp := turn_pre st L (turns st L s0 n)
    revert hp
    unfold turn
    split
    · intro _ h
      exact ih i row h
    · rename_i mm hm
      dsimp only
      intro hp h
      by_cases hi : i < (turns st L s0 n).2.length
      · rw [List.getElem?_append_left hi] at h
        obtain ⟨m, h1, h2, h3⟩ := ih i row h
        have h4 : i < (turns st L s0 n).1.length := (List.getElem?_eq_some_iff.mp h1).1
        refine ⟨m, ?_, ?_, fun c hc => hp.subset (h3 c hc)⟩
        · obtain ⟨t, ht⟩ := hp
          rw [← ht, List.getElem?_append_left h4]
          exact h1
        · rw [h2]
          refine List.map_congr_left fun c hc => (num_pre (h3 c hc) hp).symm
      · have hl := (List.getElem?_eq_some_iff.mp h).1
        rw [List.length_append, List.length_singleton] at hl
        have ei : i = (turns st L s0 n).2.length := by omega
        subst ei
        rw [List.getElem?_append_right (Nat.le_refl _), Nat.sub_self] at h
        have h : (rowOf st mm L ((turns st L s0 n).1, [])).2 = row := Option.some.inj h
        obtain ⟨h1, h2⟩ := rowOf_eq st mm L ((turns st L s0 n).1, [])
        refine ⟨mm, ?_, by rw [← h, h1]; rfl, h2⟩
        have h4 := (List.getElem?_eq_some_iff.mp hm).1
        obtain ⟨t, ht⟩ := hp
        rw [← ht, List.getElem?_append_left h4]
        exact hm
/-- the bits along a column -/
def pay (st : κ → Nat → κ) (bt : κ → Nat → Int) : κ → List Nat → Int
  | _, [] => 0
  | k, c :: y => bt k c + pay st bt (st k c) y
/-- all keys have rows that tell where the letters lead -/
structure Full (st : κ → Nat → κ) (L : List Nat) (s0 : κ) (ks : List κ) (rows : List (List Nat)) : Prop where
  nd : ks.Nodup
  len : rows.length = ks.length
  s0_ : ks[0]? = some s0
  row : ∀ (i : Nat) (row : List Nat), rows[i]? = some row → ∃ m, ks[i]? = some m ∧ row = L.map (fun c => num ks (st m c)) ∧ ∀ c ∈ L, st m c ∈ ks
theorem full_of {st : κ → Nat → κ} {L : List Nat} {s0 : κ} {n : Nat} (h : (turns st L s0 n).1.length ≤ n) : Full st L s0 (turns st L s0 n).1 (turns st L s0 n).2 := by
  refine ⟨turns_nodup st L s0 n, turns_done st L s0 h, ?_, turns_eq st L s0 n⟩
  obtain ⟨t, ht⟩ := turns_pre st L s0 (Nat.zero_le n)
  rw [← ht]
  rfl
theorem Full.goal {st : κ → Nat → κ} {L : List Nat} {s0 : κ} {ks : List κ} {rows : List (List Nat)} (F : Full st L s0 ks rows) {k : κ} (hk : k ∈ ks) {c : Nat} (hc : c ∈ L) : st k c ∈ ks := by
  have h1 := num_get hk
  have h2 := num_lt hk
  obtain ⟨m, h3, _, h5⟩ := F.row (num ks k) _ (List.getElem?_eq_getElem (by rw [F.len]; exact h2))
  rw [h1] at h3
  rw [Option.some.inj h3]
  exact h5 c hc
theorem made_step {st : κ → Nat → κ} {bt : κ → Nat → Int} {L : List Nat} {s0 : κ} {ks : List κ} {rows : List (List Nat)} (F : Full st L s0 ks rows) {k : κ} (hk : k ∈ ks) {c : Nat} (hc : c ∈ L) (t : Int) :
    stepR (List.zipWith (fun k row => List.zipWith (fun c (n : Nat) => ((n : Int), bt k c)) L row) ks rows) L ((num ks k : Int), t) c = ((num ks (st k c) : Int), t + bt k c) := by
  have h1 := num_get hk
  have h2 := num_lt hk
  have hr : rows[num ks k]? = some (rows[num ks k]'(by rw [F.len]; exact h2)) := List.getElem?_eq_getElem _
  obtain ⟨m, h3, h4, _⟩ := F.row (num ks k) _ hr
  rw [h1] at h3
  obtain rfl : k = m := Option.some.inj h3
  have hci : L[L.idxOf c]? = some c := by
    have hl := List.idxOf_lt_length_iff.mpr hc
    rw [List.getElem?_eq_getElem hl, List.getElem_idxOf hl]
  unfold stepR
  have e1 : (((num ks k : Nat) : Int)).toNat = num ks k := Int.toNat_natCast _
  have e2 : (List.zipWith (fun k row => List.zipWith (fun c (n : Nat) => ((n : Int), bt k c)) L row) ks rows)[num ks k]? = some (List.zipWith (fun c (n : Nat) => ((n : Int), bt k c)) L (rows[num ks k]'(by rw [F.len]; exact h2))) := by
    rw [List.getElem?_zipWith, h1, hr]
  have e3 : (List.zipWith (fun c (n : Nat) => ((n : Int), bt k c)) L (rows[num ks k]'(by rw [F.len]; exact h2)))[L.idxOf c]? = some ((num ks (st k c) : Int), bt k c) := by
    rw [List.getElem?_zipWith, hci, h4, List.getElem?_map, hci]
    rfl
  simp only [e1, List.getD_eq_getElem?_getD, e2, Option.getD_some, e3]
theorem made_walk {st : κ → Nat → κ} {bt : κ → Nat → Int} {L : List Nat} {s0 : κ} {ks : List κ} {rows : List (List Nat)} (F : Full st L s0 ks rows) : ∀ (y : List Nat) (k : κ) (t : Int), k ∈ ks → (∀ c ∈ y, c ∈ L) →
    y.foldl (stepR (List.zipWith (fun k row => List.zipWith (fun c (n : Nat) => ((n : Int), bt k c)) L row) ks rows) L) ((num ks k : Int), t) = ((num ks (y.foldl st k) : Int), t + pay st bt k y) ∧ y.foldl st k ∈ ks
  | [], k, t, hk, _ => ⟨by simp [pay], hk⟩
  | c :: y, k, t, hk, hy => by
    have hc := hy c List.mem_cons_self
    obtain ⟨h1, h2⟩ := made_walk F y (st k c) (t + bt k c) (F.goal hk hc) fun d hd => hy d (List.mem_cons_of_mem _ hd)
    refine ⟨?_, h2⟩
    rw [List.foldl_cons, made_step F hk hc, h1, List.foldl_cons]
    show _ = (_, t + (bt k c + pay st bt (st k c) y))
    rw [Int.add_assoc]
theorem made_len {st : κ → Nat → κ} {bt : κ → Nat → Int} {en : κ → Int} {L : List Nat} {s0 : κ} {ks : List κ} {rows : List (List Nat)} (F : Full st L s0 ks rows) {y : List Nat} (hy : ∀ c ∈ y, c ∈ L) :
    lenR (List.zipWith (fun k row => List.zipWith (fun c (n : Nat) => ((n : Int), bt k c)) L row) ks rows) (ks.map en) L y = pay st bt s0 y + en (y.foldl st s0) := by
  have hs : s0 ∈ ks := List.mem_of_getElem? F.s0_
  have e0 : num ks s0 = 0 := num_of F.nd F.s0_
  obtain ⟨h1, h2⟩ := made_walk (bt := bt) F y s0 0 hs hy
  rw [e0] at h1
  unfold lenR walkR
  have h1' : y.foldl (stepR (List.zipWith (fun k row => List.zipWith (fun c (n : Nat) => ((n : Int), bt k c)) L row) ks rows) L) (0, 0) = _ := h1
  rw [h1']
  have e1 : (((num ks (y.foldl st s0) : Nat) : Int)).toNat = num ks (y.foldl st s0) := Int.toNat_natCast _
  have e2 : (ks.map en)[num ks (y.foldl st s0)]? = some (en (y.foldl st s0)) := by rw [List.getElem?_map, num_get h2]; rfl
  dsimp only
  rw [e1, List.getD_eq_getElem?_getD, e2, Option.getD_some, Int.zero_add]
theorem made_goodS {st : κ → Nat → κ} {bt : κ → Nat → Int} {L : List Nat} {s0 : κ} {ks : List κ} {rows : List (List Nat)} (F : Full st L s0 ks rows) : GoodS L.length (List.zipWith (fun k row => List.zipWith (fun c (n : Nat) => ((n : Int), bt k c)) L row) ks rows) := by
  refine ⟨fun r hr => ?_⟩
  obtain ⟨i, hi, e⟩ := List.getElem_of_mem hr
  rw [List.length_zipWith] at hi
  have hi1 : i < ks.length := by omega
  have hi2 : i < rows.length := by omega
  rw [List.getElem_zipWith] at e
  obtain ⟨m, h3, h4, h5⟩ := F.row i _ (List.getElem?_eq_getElem hi2)
  have hl : rows[i].length = L.length := by rw [h4, List.length_map]
  subst e
  refine ⟨by rw [List.length_zipWith]; omega, fun gb hg => ?_⟩
  obtain ⟨j, hj, q⟩ := List.getElem_of_mem hg
  rw [List.getElem_zipWith] at q
  rw [List.length_zipWith] at hj
  have hx : rows[i][j]'(by omega) ∈ rows[i] := List.getElem_mem _
  have gen : ∀ row : List Nat, row = L.map (fun c => num ks (st m c)) → ∀ x ∈ row, x < ks.length := fun row e x hx => by
    subst e
    obtain ⟨c, hc, ec⟩ := List.mem_map.mp hx
    rw [← ec]
    exact num_lt (h5 c hc)
  have hx2 := gen _ h4 _ hx
  have := F.len
  rw [← q, List.length_zipWith]
  dsimp only
  omega
end
end Vf
set_option Elab.async false
set_option linter.all false
set_option maxRecDepth 100000
set_option maxHeartbeats 4000000
namespace Vf
open PySem L2 PyProof.Rows
open NdefX LamX
def spGd {κ : Type} [DecidableEq κ] (kd : Kd κ) (gd : κ → Bool) (Dm : κ → Prop) : Sp := fun vs H Q _ => ∃ (v : V) (k : κ), vs = [v] ∧ kd.at_ H v k ∧ Dm k ∧ ∀ H', Same H H' → Q (.bl (gd k)) H'
/-- the numbers of the good ones -/
def goodFrom {κ : Type} (gd : κ → Bool) : Nat → List κ → List Int
  | _, [] => []
  | n, k :: ks => if gd k = true then (n : Int) :: goodFrom gd (n + 1) ks else goodFrom gd (n + 1) ks
theorem goodFrom_snoc {κ : Type} (gd : κ → Bool) (k : κ) : ∀ (ks : List κ) (n : Nat), goodFrom gd n (ks ++ [k]) = goodFrom gd n ks ++ if gd k = true then [((n + ks.length : Nat) : Int)] else []
  | [], n => by
    show (if gd k = true then (n : Int) :: goodFrom gd (n + 1) [] else goodFrom gd (n + 1) []) = _
    rfl
  | a :: ks, n => by
    have ih := goodFrom_snoc gd k ks (n + 1)
    rw [List.cons_append]
    unfold goodFrom
    rw [ih, List.length_cons, show n + 1 + ks.length = n + (ks.length + 1) by omega]
    split <;> rfl
theorem goodFrom_ge {κ : Type} (gd : κ → Bool) : ∀ (ks : List κ) (n : Nat), ∀ x ∈ goodFrom gd n ks, (n : Int) ≤ x ∧ x < (n + ks.length : Nat)
  | [], n => fun x hx => nomatch hx
  | a :: ks, n => fun x hx => by
    have ih := goodFrom_ge gd ks (n + 1) x
    unfold goodFrom at hx
    rw [List.length_cons]
    split at hx
    · rcases List.mem_cons.mp hx with q | q
      · subst q; omega
      · have := ih q; omega
    · have := ih hx; omega
theorem goodFrom_up {κ : Type} (gd : κ → Bool) : ∀ (ks : List κ) (n : Nat), Up (goodFrom gd n ks)
  | [], n => List.Pairwise.nil
  | a :: ks, n => by
    have ih := goodFrom_up gd ks (n + 1)
    unfold goodFrom
    split
    · refine List.pairwise_cons.mpr ⟨fun x hx => ?_, ih⟩
      have := goodFrom_ge gd ks (n + 1) x hx
      omega
    · exact ih
theorem goodFrom_mem {κ : Type} (gd : κ → Bool) : ∀ (ks : List κ) (n i : Nat) (k : κ), ks[i]? = some k → (((n + i : Nat) : Int) ∈ goodFrom gd n ks ↔ gd k = true)
  | [], n, i, k, h => nomatch h
  | a :: ks, n, 0, k, h => by
    obtain rfl : a = k := Option.some.inj h
    unfold goodFrom
    split
    · rename_i q
      exact ⟨fun _ => q, fun _ => List.mem_cons_self⟩
    · rename_i q
      refine ⟨fun hx => ?_, fun z => absurd z q⟩
      have := goodFrom_ge gd ks (n + 1) _ hx
      omega
  | a :: ks, n, i + 1, k, h => by
    have ih := goodFrom_mem gd ks (n + 1) i k h
    rw [show n + 1 + i = n + (i + 1) by omega] at ih
    unfold goodFrom
    split
    · rw [List.mem_cons]
      refine ⟨fun q => ?_, fun q => Or.inr (ih.mpr q)⟩
      rcases q with q | q
      · omega
      · exact ih.mp q
    · exact ih
theorem goodFrom_len {κ : Type} (gd : κ → Bool) : ∀ (ks : List κ) (n : Nat), (goodFrom gd n ks).length ≤ ks.length
  | [], n => Nat.le_refl _
  | a :: ks, n => by
    have ih := goodFrom_len gd ks (n + 1)
    unfold goodFrom
    split <;> (simp only [List.length_cons]; omega)
def goals (rows : List (List Nat)) : List (List Int) := rows.map fun row => row.map fun (n : Nat) => (n : Int)
structure TxtMS (K : PySem.W.Frag) (mg : Str → Option Value) (C fCG fCD B CB fB' fX : Addr) : Prop extends TxtS K mg C fCG fCD B CB fB' where
  mexplored : mg "explored" = some (.ref fX)
  kexplored : PySem.W.keepIn K (.ref fX) = true
  most : ∃ t, mg "MOST_STATES" = some (.int 40 t)
theorem goodRows_of {m : Nat} {rows : List (List Nat)} {n : Nat} (hn : rows.length = n) (hp : 0 < n) (hall : ∀ row ∈ rows, row.length = m ∧ ∀ x ∈ row, x < n) : GoodRows m (goals rows) := by
  have hl : (goals rows).length = n := by unfold goals; rw [List.length_map, hn]
  refine ⟨fun j hj hb => ?_, by omega⟩
  have hj' : j < rows.length := by omega
  have e : (goals rows)[j] = rows[j].map fun (n : Nat) => (n : Int) := List.getElem_map ..
  obtain ⟨h1, h2⟩ := hall _ (List.getElem_mem hj')
  rcases hb with h | ⟨g, hg, h⟩
  · rw [e, List.length_map] at h; exact h h1
  · rw [e] at hg
    obtain ⟨x, hx, rfl⟩ := List.mem_map.mp hg
    have := h2 x hx
    rw [hl] at h
    omega
theorem not_badRow {m : Nat} {gs : List (List Int)} {i : Nat} (h : GoodRows m gs) : ¬ BadRow m gs i := by
  rintro (⟨hi, hb, _⟩ | ⟨_, hb⟩)
  · exact h.1 i hi hb
  · have := h.2; omega
theorem dpAll_goals {K : PySem.W.Frag} {H : Hp} : ∀ {rs : List Addr} {rows : List (List Nat)}, rs.length = rows.length → (∀ (i : Nat) (r : Addr) (row : List Nat), rs[i]? = some r → rows[i]? = some row → H r = some (.lst (row.map fun (n : Nat) => V.int (n : Int)))) → DpAll K H (rs.map V.ref) ((goals rows).map intsD)
  | [], [], _, _ => .nil
  | r :: rs, row :: rows, hl, h => by
    have h0 := h 0 r row rfl rfl
    have ih := dpAll_goals (K := K) (H := H) (rs := rs) (rows := rows) (by simpa using hl) fun i r' row' h1 h2 => h (i + 1) r' row' h1 h2
    refine DpAll.cons (Dp.lst (SqL.of (xs := (row.map fun (n : Nat) => (n : Int)).map V.int) ?_) (dpAll_ints K H _)) ih
    rw [h0, List.map_map]
    rfl
section
variable {P : Program} {w : World} {K : PySem.W.Frag} {mg : Str → Option Value} {base : Heap}
def spMadeS (P : Program) (w : World) (K : PySem.W.Frag) (mg : Str → Option Value) (base : Heap) (C CT : Addr) {κ : Type} [DecidableEq κ] (kd : Kd κ) : Sp := fun vs H Q E => ∃ (z : Str) (v0 : V) (f g : Addr) (s0 : κ) (st : κ → Nat → κ) (gd : κ → Bool) (Dm : κ → Prop) (S S' : Hp → Prop),
  vs = [.str z, v0, .ref f, .ref g] ∧ kd.at_ H v0 s0 ∧ Dm s0 ∧ (∀ k c, Dm k → c ∈ TL.tl z → Dm (st k c)) ∧ S H ∧ S' H ∧ Stab S ∧ Stab S' ∧ FV P w K mg base CX0 8 f S (spStep kd st Dm z) ∧ FV P w K mg base CX0 8 g S' (spGd kd gd Dm) ∧ z.length ≤ 26 ∧
  ((turns st (TL.tl z) s0 40).1.length ≤ 40 → ∀ o H', Same H H' → ShapeAt K C H' o z (goals (turns st (TL.tl z) s0 40).2) (goodFrom gd 0 (turns st (TL.tl z) s0 40).1) → GoodRows z.length (goals (turns st (TL.tl z) s0 40).2) → Q (.ref o) H') ∧
  (40 < (turns st (TL.tl z) s0 40).1.length → ∀ d H', Raised H H' d "what" (.str "states") → E (.ref CT) (some d) H')
abbrev s_made : Stmt := top 19
abbrev N_made : List Str := ["values", "start", "step", "is_good", "memories", "rows", "state", "memory"]
abbrev P_made : List Str := ["values", "start", "step", "is_good"]
theorem sc_made : FnScope N_made P_made (defScope s_made) := ⟨rfl, rfl, rfl, by decide +kernel, rfl, by decide +kernel, by decide +kernel⟩

theorem ok_madeS {κ : Type} [DecidableEq κ] (kd : Kd κ) {f fX fI C CT fT fCG fCD B CB fB' : Addr} {fd fdX fdT fdI fdCG fdCD fdB : FuncData} (F : Fun K "made" "made" s_made f fd) (T : TxtMS K mg C fCG fCD B CB fB' fX) (TE : TxtE K mg B CT fT)
    (FX : Fun K "explored" "explored" s_explored fX fdX) (bexplored : Binds K fdX P_explored []) (FT : Fun K "__init__" "TooMany.__init__" s_TooMany___init__ fT fdT) (bT : Binds K fdT P_TooMany___init__ [])
    (MShape : Mk K C fI) (FI : Fun K "__init__" "Shape.__init__" s_Shape___init__ fI fdI) (bShape : Binds K fdI P_Shape___init__ []) (FCG : Fun K "check_goals" "check_goals" s_check_goals fCG fdCG) (bcheck_goals : Binds K fdCG P_check_goals [])
    (FCD : Fun K "check_good" "check_good" s_check_good fCD fdCD) (bcheck_good : Binds K fdCD P_check_good []) (FB' : Fun K "__init__" "BadCode.__init__" s_BadCode___init__ fB' fdB) (bB' : Binds K fdB P_BadCode___init__ []) : FnOk P w K mg base (L2.CX P w) 10 f fd P_made (spMadeS P w K mg base C CT kd) := by
  have Gexplored : FnOk P w K mg base (L2.CX P w) 9 fX fdX P_explored (spExpl P w K mg base CT kd) := ok_expl kd FX TE FT bT
  have GShape : FnOk P w K mg base (L2.CX P w) 4 fI fdI P_Shape___init__ (spInitS K C CB) := ok_initS FI T.toTxtS FCG bcheck_goals FCD bcheck_good FB' bB'
  obtain ⟨tm, hmost⟩ := T.most
  refine F.okX sc_made (fun vs H Q E h => ?_) (fun cdv A outer s H vs Q E hr h => ?_)
  · obtain ⟨z, v0, f, g, s0, st, gd, Dm, S, S', rfl, _⟩ := h
    rfl
  · obtain ⟨z, v0, fs, fe, s0, st, gd, Dm, S, S', rfl, h0, hD0, hD, hS, hS', hst, hst', FS, FE, hz, kq, ke⟩ := h
    have hu := hu_of hr
    have passL : Passes (L2.CX P w) (cxOf (L2.CX P w) P w K mg base N_made "made" (defScope s_made) f cdv A outer s H E) E := passes_call (takes_of rfl rfl rfl rfl) (fun _ _ _ _ h => h)
    refine ⟨_, (pss_cons (ps_asg (pe_call Gexplored (hr.mono (by decide)) (by rfl) T.mexplored T.kexplored bexplored .nil passL (pa_cons (pv 0) (pa_cons (pv 1) (pa_cons (pv 2) (pa_cons (pe_glob (v := .int 40) (by rfl) hmost ⟨_, rfl⟩) pa_nil))))) (pg_tup (by rfl) (pgs_cons (pg_name (i := 4) sc_made.nd rfl (Or.inl rfl)) (pgs_cons (pg_name (i := 5) sc_made.nd rfl (Or.inl rfl)) pgs_nil))))
      (pss_one (ps_ret (pe_make MShape GShape (hr.mono (by decide)) (by rfl) T.mgShape bShape .nil passL (pa_cons (pv 0) (pa_cons (pv 5) (pa_cons (pe_lc (own := [("state", 6), ("memory", 7)]) (g := gTup K 2 (gCons (gName 6) (gCons (gName 7) gNil))) (by rfl) sc_made.nd (pi_enumX (by rfl) T.enumerate (pa_cons (pv 4) pa_nil)) (blkOk_by (own := [("state", 6), ("memory", 7)]) (N := N_made) (sc := defScope s_made) (by decide +kernel)) (fun _ _ _ _ _ => (pg_tup (by rfl) (pgs_cons (pg_name (i := 6) sc_made.nd rfl (Or.inl rfl)) (pgs_cons (pg_name (i := 7) sc_made.nd rfl (Or.inl rfl)) pgs_nil)))) (fun _ _ _ _ _ => (pts_one (pt_val (pcv 3 FE (hr.mono (by decide)) pass0 (pa_cons (pv 7) pa_nil))))) (fun _ _ _ _ _ => (pv 6))) pa_nil))))))), ?_⟩
    refine ⟨_, rfl, _, rfl, _, rfl, z, v0, fs, 40, s0, st, Dm, S, rfl, h0, hD0, hD, hS, hst, FS, by decide, hz, fun hle t H1 s1 hex => ?_, fun hgt d H' r => ke hgt d H' r⟩
    obtain ⟨M, R, vs, rs, ht, hM, hvs, hR, hrs⟩ := hex
    refine ⟨t, _, rfl, SqT.of ht, rfl, _, _, rfl, _, _, rfl, rfl, ?_⟩
    have hdone := turns_done st (TL.tl z) s0 hle
    have hall := turns_all st (TL.tl z) s0 40
    have kq := kq hle
    have hpos : 0 < (turns st (TL.tl z) s0 40).1.length := Nat.lt_of_lt_of_le (Nat.zero_lt_one) (turns_pre st (TL.tl z) s0 (Nat.zero_le 40)).length_le
    have hdm : ∀ k ∈ (turns st (TL.tl z) s0 40).1, Dm k := turns_dm st (TL.tl z) s0 hD0 hD 40
    clear ke
    revert hvs hrs hdone hall kq hdm hle hpos
    generalize turns st (TL.tl z) s0 40 = gp
    obtain ⟨ks, rows⟩ := gp
    dsimp only
    intro hle hvs hrs hdone hall kq hpos hdm
    have lv := hvs.1
    have lr := hrs.1
    refine ⟨_, rfl, _, rfl, _, rfl, M, vs, rfl, Or.inl (SqL.of hM), fun J hJ D hD => lc_it hJ (fun j H2 => H2 D = some (.lst ((goodFrom gd 0 (ks.take j)).map V.int)) ∧ Same H1 H2) ⟨upd_same, same_new hD⟩ (fun j H2 _ ⟨_, s2⟩ => GSq.same s2) ?_ ?_⟩
    · rintro j x H2 H3 hj ⟨hD2, s2⟩ ⟨q, b, rfl, hq, rfl, hb⟩
      have hj' : j < ks.length := by omega
      have hkj : ks[j]? = some ks[j] := List.getElem?_eq_getElem hj'
      refine ⟨q, _, rfl, SqT.of upd_same, rfl, _, _, rfl, _, _, rfl, rfl, rfl, ?_⟩
      have s3 : Same H1 (L2.upd H2 q (.tup [.int j, b])) := s2.trans (same_new hq)
      have hD3 : (L2.upd H2 q (.tup [.int j, b])) D = some (.lst ((goodFrom gd 0 (ks.take j)).map V.int)) := same_new hq _ _ hD2
      revert s3 hD3
      generalize L2.upd H2 q (.tup [.int j, b]) = H3
      intro s3 hD3
      have hat : kd.at_ H3 b ks[j] := kd.keep (hvs.2 j b _ hb hkj) fun b xs e => s3 _ _ e
      have hS3 := hst'.same (s1.trans s3) hS'
      refine ⟨rfl, hS3, _, rfl, hS3, b, ks[j], rfl, hat, hdm _ (List.getElem_mem hj'), fun H4 s4 => ⟨_, rfl, ?_⟩⟩
      have hsn : ks.take (j + 1) = ks.take j ++ [ks[j]] := take_more hj'
      have hlt : (ks.take j).length = j := by rw [List.length_take]; omega
      have hg := goodFrom_snoc gd ks[j] (ks.take j) 0
      rw [hlt, Nat.zero_add] at hg
      have hD4 := s4 _ _ hD3
      have hgl := goodFrom_len gd (ks.take j) 0
      refine ite2 (fun c => ?_) (fun c => ?_)
      · refine ⟨_, rfl, _, hD4, ?_, ?_, (s3.trans s4).put hD⟩
        · rw [List.length_map]; exact small1000 (by omega)
        · rw [upd_same, hsn, hg, if_pos c, List.map_append]
          rfl
      · refine ⟨?_, s3.trans s4⟩
        rw [hD4, hsn, hg, if_neg c, List.append_nil]
    · rintro H2 ⟨hD2, s2⟩
      rw [List.take_of_length_le (by omega)] at hD2
      have hgl := goodFrom_len gd ks 0
      have hok : GoodRows z.length (goals rows) := goodRows_of hdone hpos (by rw [TL.len_tl]; exact hall)
      have hgL : (goals rows).length = ks.length := by unfold goals; rw [List.length_map]; exact hdone
      refine fun x dx hx hdx ne => ?_
      have hx' : (L2.upd H2 dx (.own x)) x = none := by rw [upd_ne ne.symm]; exact hx
      have s6 : Same H2 (L2.upd (L2.upd H2 dx (.own x)) x (.ins C dx [])) := (same_new hdx).trans (same_new hx')
      have hRw : Dp K H1 (.ref R) (rowsID (goals rows)) := by
        exact Dp.lst (SqL.of hR) (dpAll_goals hrs.1 fun i r row h1 h2 => hrs.2 i r row h1 h2)
      refine ⟨x, dx, z, .ref R, D, goals rows, goodFrom gd 0 ks, rfl, upd_same, Or.inl (hRw.mv (Kl.same (s2.trans s6))), SqL.of (s6 _ _ hD2), hz, by omega, by omega, fun r hr => ?_, fun _ _ H' es' hu' hm' hSh k7 => ⟨rfl, ?_⟩, fun i hb => ?_, fun _ i hi hb => ?_⟩
      · obtain ⟨row, hrow, rfl⟩ := List.mem_map.mp hr
        rw [List.length_map, (hall row hrow).1]
        have := TL.len_tl z
        omega
      · obtain rfl := up_ext hu' (goodFrom_up gd ks 0) hm'
        refine kq x H' (fun b o e => ?_) hSh hok
        have e2 := s2 _ _ (s1 _ _ e)
        have e6 := s6 _ _ e2
        refine k7 b o e6 fun q => ?_
        rw [q, hx] at e2
        cases e2
      · exact absurd hb (not_badRow hok)
      · refine absurd ?_ hb
        have := goodFrom_ge gd ks 0 _ (List.getElem_mem hi)
        rw [hgL]
        omega
end
end Vf
set_option Elab.async false
set_option linter.all false
set_option maxRecDepth 100000
set_option maxHeartbeats 4000000
namespace Vf
open PySem L2 PyProof.Rows
section
variable {P : Program} {w : World} {K : PySem.W.Frag} {mg : Str → Option Value} {base : Heap}
/-- the pick too -/
structure TxtP (K : PySem.W.Frag) (mg : Str → Option Value) (fD fP : Addr) : Prop extends TxtD K mg fD where
  m_law_pick : mg "_law_pick" = some (.ref fP)
  k_law_pick : PySem.W.keepIn K (.ref fP) = true
abbrev s__law_letters : Stmt := top 27
abbrev N__law_letters : List Str := ["_law_pen_here", "_law_many", "_law_left", "_law_found", "_law_turn", "_law_at"]
abbrev P__law_letters : List Str := ["_law_pen_here", "_law_many"]
theorem sc__law_letters : FnScope N__law_letters P__law_letters (defScope s__law_letters) := ⟨rfl, rfl, rfl, by decide +kernel, rfl, by decide +kernel, by decide +kernel⟩

theorem ok_letters {f fD : Addr} {fd fdD : FuncData} (F : Fun K "_law_letters" "_law_letters" s__law_letters f fd) (T : TxtD K mg fD) (FD : Fun K "_law_draw" "_law_draw" s__law_draw fD fdD) (b_law_draw : Binds K fdD P__law_draw []) : FnOk P w K mg base CX0 2 f fd P__law_letters spLetters := by
  have G_law_draw : FnOk P w K mg base CX0 1 fD fdD P__law_draw spDraw := ok_draw FD T.toTxtA
  refine F.ok sc__law_letters (fun vs H Q E h => ?_) (fun cdv A outer s H vs Q E hr h => ?_)
  · obtain ⟨p, c, m, n, rfl, _⟩ := h
    rfl
  · obtain ⟨p, c, m, n, rfl, hp, hn, hm, k⟩ := h
    refine ⟨_, (pss_cons (ps_par (i := 2) (j := 3) (by rfl) sc__law_letters.nd rfl rfl (by decide) rfl rfl (pa_cons pe_str (pa_cons (pe_lst pa_nil) pa_nil)) (by rfl))
      (pss_cons (ps_for PassesOwn.never rfl (pi_range1 (by rfl) T.range (pa_cons (pv 1) pa_nil)) (pg_name (i := 4) sc__law_letters.nd rfl (Or.inl rfl)) (pss_cons (ps_set (i := 5) sc__law_letters.nd rfl (Or.inl rfl) (pe_call G_law_draw (hr.mono (by decide)) (by rfl) T.m_law_draw T.k_law_draw b_law_draw .nil pass0 (pa_cons (pv 0) (pa_cons (pe_callB call_len (by rfl) T.len PySem.boot_len (pa_cons (pv 2) pa_nil)) pa_nil))))
      (pss_cons (ps_set (i := 3) sc__law_letters.nd rfl (Or.inl rfl) (pe_op op_cat (pv 3) (pe_lst (pa_cons (pe_ix ix_str (pv 2) (pv 5) (fun _ _ => rfl)) pa_nil))))
      (pss_one (ps_set (i := 2) sc__law_letters.nd rfl (Or.inl rfl) (pe_op op_add_str (pe_slice sl_str (pv 2) po_none (po_some (pv 5))) (pe_slice sl_str (pv 2) (po_some (pe_op op_add (pv 5) pe_int)) po_none)))))))
      (pss_one (ps_ret (pe_join pe_str (pe_callB cr_sortedS (by rfl) T.sorted boot_sorted (pa_cons (pv 3) pa_nil))))))), ?_⟩
    refine ⟨by show 0 ≤ sizeLine; decide, fun F0 hF => ⟨_, _, rfl, ?_⟩⟩
    have hFp : F0 ≠ p := by
      obtain ⟨kvs, hd⟩ := hp.dk
      exact (ne_of_none hd hF).symm
    refine ⟨_, rfl, (m : Int), rfl, by omega, by omega, for_range (n := m) (fun i σ H1 => ∃ (F1 : Addr) (L : Str) (fs : List Nat) (v4 v5 : Option V), σ = [some (.ref p), some (.int m), some (.str L), some (.ref F1), v4, v5] ∧
      H1 F1 = some (.lst ((fs.map sg).map V.str)) ∧ fs.length = i ∧ (fs ++ TL.tl L).Perm alpha ∧ Pen H1 p c (n + i) ∧ Kp p H H1)
      ⟨F0, _, [], none, none, rfl, upd_same, rfl, List.Perm.refl _, hp.same (same_new hF), Kp.of (same_new hF)⟩ ?_ ?_⟩
    · rintro i σ H1 hi ⟨F1, L, fs, v4, v5, rfl, hF1, hlen, hperm, hp1, kk⟩
      have hL : L.length = 26 - i := by
        have := hperm.length_eq
        rw [List.length_append, alpha_len, ← TL.len_tl] at this
        omega
      have hLz : L.length ≤ sizeLine := Nat.le_of_lt (small1000 (by omega))
      refine ⟨_, rfl, _, rfl, _, _, rfl, ⟨hLz, rfl⟩, p, c, _, n + i, rfl, hp1, by omega, by omega, by omega, fun d H2 d0 d1 hp2 kk2 => ?_⟩
      have hj : d.toNat < (TL.tl L).length := by rw [← TL.len_tl]; omega
      have hF2 : H2 F1 = some (.lst ((fs.map sg).map V.str)) := by
        obtain ⟨kvs, hd⟩ := hp1.dk
        exact kk2 _ _ hF1 (ne_of hF1 hd (by intro z; cases z))
      have ed : d = (d.toNat : Int) := (Int.toNat_of_nonneg d0).symm
      refine ⟨_, rfl, _, rfl, _, rfl, L, d, _, rfl, rfl, hLz, at_of' ed (List.getElem?_eq_getElem hj), (by show 1 ≤ sizeLine; decide), fun q hq => ?_⟩
      have s2 : Same H2 (L2.upd H2 q (.lst [V.str (sg (TL.tl L)[d.toNat])])) := same_new hq
      refine ⟨F1, q, _, _, rfl, rfl, s2 _ _ hF2, upd_same, (by rw [List.length_map, List.length_map]; show fs.length + 1 ≤ sizeLine; exact Nat.le_of_lt (small1000 (by omega))), fun r hr2 => ?_⟩
      have s3 : Same H2 (L2.upd (L2.upd H2 q (.lst [V.str (sg (TL.tl L)[d.toNat])])) r (.lst ((fs.map sg).map V.str ++ [V.str (sg (TL.tl L)[d.toNat])]))) := s2.trans (same_new hr2)
      -- left = left[:at] + left[at + 1:]
      have hjl : d.toNat < L.length := by omega
      have t1 : TL.tl (cutS L none (some d)) = (TL.tl L).take d.toNat := by rw [ed]; exact cut_to (by omega)
      have t2 : TL.tl (cutS L (some (d + 1)) none) = (TL.tl L).drop (d.toNat + 1) := by
        have e1 : d + 1 = ((d.toNat + 1 : Nat) : Int) := by omega
        rw [e1]; exact cut_from (by omega)
      refine ⟨_, rfl, _, rfl, d, rfl, L, rfl, hLz, _, rfl, _, rfl, _, _, rfl, rfl, _, rfl, L, rfl, hLz, _, _, rfl, rfl, ?_, ?_⟩
      · rw [TL.len_tl, TL.len_tl, t1, t2, List.length_take, List.length_drop, ← TL.len_tl, sizeLine_eq]
        rw [sizeLine_eq] at hLz
        omega
      · refine ⟨r, _, fs ++ [(TL.tl L)[d.toNat]], _, _, rfl, ?_, ?_, ?_, ?_, ?_⟩
        · rw [upd_same, List.map_append, List.map_append]; rfl
        · rw [List.length_append, hlen]; rfl
        · rw [TL.tl_append, t1, t2]
          have e2 : (TL.tl L).take d.toNat ++ ((TL.tl L)[d.toNat]'hj) :: (TL.tl L).drop (d.toNat + 1) = TL.tl L := by
            rw [← List.drop_eq_getElem_cons hj, List.take_append_drop]
          refine List.Perm.trans ?_ hperm
          conv => rhs; rw [← e2]
          rw [List.append_assoc]
          exact List.Perm.append_left _ (List.perm_middle (a := (TL.tl L)[d.toNat]'hj) (l₁ := (TL.tl L).take d.toNat) (l₂ := (TL.tl L).drop (d.toNat + 1))).symm
        · exact hp2.same s3
        · exact kk.trans (kk2.trans (Kp.of s3))
    · rintro σ H1 ⟨F1, L, fs, v4, v5, rfl, hF1, hlen, hperm, hp1, kk⟩
      refine ⟨⟨_, rfl⟩, _, rfl, F1, fs.map sg, rfl, SqL.of hF1, by rw [List.length_map]; omega, fun ys q hperm2 hsort hq => ?_⟩
      obtain ⟨ds, rfl, hd⟩ := perm_sg hperm2
      have hl := ltr_of hperm hd (sorted_sg hsort)
      have hdl : ds.length = m := hd.length_eq.trans hlen
      refine ⟨_, q, ds.map sg, rfl, rfl, Or.inl (SqL.of upd_same), ?_, ?_⟩
      · rw [sum_sg]
        show ds.length + (ds.map sg).length * 0 ≤ 16777216
        omega
      · have e : TL.tl (Txt.join (Str.ofString "") (ds.map sg)) = ds := join_sg ds
        refine k _ _ ⟨by rw [TL.len_tl, e]; exact hdl, by rw [e]; exact hl.1, by rw [e]; exact hl.2⟩ (hp1.same (same_new hq)) (kk.trans (Kp.of (same_new hq)))
end
end Vf
set_option Elab.async false
set_option linter.all false
set_option maxRecDepth 100000
set_option maxHeartbeats 4000000
namespace Vf
open PySem L2 PyProof.Rows
section
variable {P : Program} {w : World} {K : PySem.W.Frag} {mg : Str → Option Value} {base : Heap}
/-- a drawn column -/
def spCol : Sp := fun vs H Q _ => ∃ (p c : Addr) (z : Str) (most n : Nat), vs = [.ref p, .str z, .int most] ∧ Pen H p c n ∧ n ≤ 2 ^ 29 ∧ most ≤ 100 ∧ 0 < z.length ∧ z.length ≤ 26 ∧
  ∀ (y : Str) (H' : Hp), y.length ≤ most → (∀ x ∈ TL.tl y, x ∈ TL.tl z) → Pen H' p c (n + 300) → Kp p H H' → Q (.str y) H'
abbrev s__law_column : Stmt := top 31
abbrev N__law_column : List Str := ["_law_pen_here", "_law_letters_here", "_law_most", "_law_many", "_law_found", "_law_place", "_law_again"]
abbrev P__law_column : List Str := ["_law_pen_here", "_law_letters_here", "_law_most"]
theorem sc__law_column : FnScope N__law_column P__law_column (defScope s__law_column) := ⟨rfl, rfl, rfl, by decide +kernel, rfl, by decide +kernel, by decide +kernel⟩

theorem ok_col {f fD fP : Addr} {fd fdD fdP : FuncData} (F : Fun K "_law_column" "_law_column" s__law_column f fd) (T : TxtP K mg fD fP) (FD : Fun K "_law_draw" "_law_draw" s__law_draw fD fdD) (b_law_draw : Binds K fdD P__law_draw [])
    (FP : Fun K "_law_pick" "_law_pick" s__law_pick fP fdP) (b_law_pick : Binds K fdP P__law_pick []) : FnOk P w K mg base CX0 3 f fd P__law_column spCol := by
  have G_law_draw : FnOk P w K mg base CX0 1 fD fdD P__law_draw spDraw := ok_draw FD T.toTxtA
  have G_law_pick : FnOk P w K mg base CX0 2 fP fdP P__law_pick spPickS := ok_pickS FP T.toTxtD FD b_law_draw
  refine F.ok sc__law_column (fun vs H Q E h => ?_) (fun cdv A outer s H vs Q E hr h => ?_)
  · obtain ⟨p, c, z, most, n, rfl, _⟩ := h
    rfl
  · obtain ⟨p, c, z, most, n, rfl, hp, hn, hm, hz0, hz, k⟩ := h
    refine ⟨_, (pss_cons (ps_par (i := 3) (j := 4) (by rfl) sc__law_column.nd rfl rfl (by decide) rfl rfl (pa_cons (pe_call G_law_draw (hr.mono (by decide)) (by rfl) T.m_law_draw T.k_law_draw b_law_draw .nil pass0 (pa_cons (pv 0) (pa_cons (pe_op op_add (pv 2) pe_int) pa_nil))) (pa_cons pe_str pa_nil)) (by rfl))
      (pss_cons (ps_for PassesOwn.never rfl (pi_range1 (by rfl) T.range (pa_cons (pv 3) pa_nil)) (pg_name (i := 5) sc__law_column.nd rfl (Or.inl rfl)) (pss_cons (ps_set (i := 6) sc__law_column.nd rfl (Or.inl rfl) (pe_and (pe_cmpR op_ne (pv 4) pe_str (nomark _)) (pe_one (pe_cmpR op_eq (pe_call G_law_draw (hr.mono (by decide)) (by rfl) T.m_law_draw T.k_law_draw b_law_draw .nil pass0 (pa_cons (pv 0) (pa_cons pe_int pa_nil))) pe_int (nomark _)))))
      (pss_one (ps_set (i := 4) sc__law_column.nd rfl (Or.inl rfl) (pe_op op_add_str (pv 4) (pe_ifExp (pt_val (pv 6)) (pe_ix ix_str (pv 4) (pe_un un_neg pe_int) (fun _ _ => rfl)) (pe_call G_law_pick (hr.mono (by decide)) (by rfl) T.m_law_pick T.k_law_pick b_law_pick .nil pass0 (pa_cons (pv 0) (pa_cons (pv 1) pa_nil)))))))))
      (pss_one (ps_ret (pv 4))))), ?_⟩
    refine ⟨_, rfl, _, rfl, _, _, rfl, rfl, p, c, _, n, rfl, hp, by omega, by omega, by omega, fun d H1 d0 d1 hp1 k1 => ⟨_, _, rfl, ?_⟩⟩
    refine ⟨_, rfl, d, rfl, by omega, by omega, for_range (n := d.toNat) (fun i σ H2 => ∃ (y : Str) (v5 v6 : Option V), σ = [some (.ref p), some (.str z), some (.int most), some (.int d), some (.str y), v5, v6] ∧
      y.length = i ∧ (∀ x ∈ TL.tl y, x ∈ TL.tl z) ∧ Pen H2 p c (n + 1 + i * 2) ∧ Kp p H H2) ⟨Str.empty, none, none, rfl, rfl, (fun x hx => nomatch hx), hp1, k1⟩ ?_ ?_⟩
    · rintro i σ H2 hi ⟨y, v5, v6, rfl, hl, hy, hp2, k2⟩
      have hys : y.length ≤ sizeLine := Nat.le_of_lt (small1000 (by omega))
      -- again = found != '' and draw(pen, 3) == 0
      refine ⟨_, rfl, rfl, _, rfl, ite2 (fun c1 => ?_) (fun c1 => ?_)⟩
      · have hne : TL.tl y ≠ [] := by
          intro e
          have : y = Str.empty := TL.ext_tl e
          subst this
          simp at c1
          exact c1 rfl
        have h0 : 0 < y.length := by rw [TL.len_tl]; exact List.length_pos_iff.mpr hne
        refine ⟨_, rfl, p, c, 3, _, rfl, hp2, by omega, by decide, by decide, fun g H3 g0 g1 hp3 k3 => ⟨rfl, ?_⟩⟩
        refine ⟨_, rfl, _, rfl, _, rfl, ite2 (fun c2 => ?_) (fun c2 => ?_)⟩
        · refine ⟨_, rfl, 1, rfl, y, -1, (TL.tl y).getLast hne, rfl, rfl, hys, ?_, _, _, rfl, rfl, ?_, ?_⟩
          · have e := List.dropLast_concat_getLast hne
            have := atI_last (TL.tl y).dropLast ((TL.tl y).getLast hne)
            rw [e] at this
            exact this
          · show y.length + 1 ≤ sizeLine
            exact Nat.le_of_lt (small1000 (by omega))
          · refine ⟨_, _, _, rfl, ?_, ?_, hp3.mono (by omega), k2.trans k3⟩
            · rw [TL.len_tl, TL.tl_append, List.length_append, ← TL.len_tl, hl]; rfl
            · intro x hx
              rw [TL.tl_append] at hx
              rcases List.mem_append.mp hx with h | h
              · exact hy x h
              · have h : x ∈ [(TL.tl y).getLast hne] := h
                rw [List.mem_singleton.mp h]; exact hy _ (List.getLast_mem hne)
        · refine ⟨_, rfl, _, rfl, p, c, z, _, rfl, hp3, by omega, hz0, by omega, fun j x H4 hx hp4 k4 => ?_⟩
          refine ⟨_, _, rfl, rfl, ?_, ?_⟩
          · show y.length + 1 ≤ sizeLine
            exact Nat.le_of_lt (small1000 (by omega))
          · refine ⟨_, _, _, rfl, ?_, ?_, hp4.mono (by omega), (k2.trans k3).trans k4⟩
            · rw [TL.len_tl, TL.tl_append, List.length_append, ← TL.len_tl, hl]; rfl
            · intro x' hx'
              rw [TL.tl_append] at hx'
              rcases List.mem_append.mp hx' with h | h
              · exact hy x' h
              · have h : x' ∈ [x] := h
                rw [List.mem_singleton.mp h]; exact List.mem_of_getElem? hx
      · refine ⟨_, rfl, _, rfl, _, rfl, ite2 (fun c2 => absurd c2 (by simp)) (fun _ => ?_)⟩
        refine ⟨_, rfl, _, rfl, p, c, z, _, rfl, hp2, by omega, hz0, by omega, fun j x H4 hx hp4 k4 => ?_⟩
        refine ⟨_, _, rfl, rfl, ?_, ?_⟩
        · show y.length + 1 ≤ sizeLine
          exact Nat.le_of_lt (small1000 (by omega))
        · refine ⟨_, _, _, rfl, ?_, ?_, hp4.mono (by omega), k2.trans k4⟩
          · rw [TL.len_tl, TL.tl_append, List.length_append, ← TL.len_tl, hl]; rfl
          · intro x' hx'
            rw [TL.tl_append] at hx'
            rcases List.mem_append.mp hx' with h | h
            · exact hy x' h
            · have h : x' ∈ [x] := h
              rw [List.mem_singleton.mp h]; exact List.mem_of_getElem? hx
    · rintro σ H2 ⟨y, v5, v6, rfl, hl, hy, hp2, k2⟩
      exact ⟨_, rfl, k y H2 (by omega) hy (hp2.mono (by omega)) k2⟩
end
end Vf
set_option Elab.async false
set_option linter.all false
set_option maxRecDepth 100000
set_option maxHeartbeats 4000000
/-! keys as data: membership and index in lists of keys -/
namespace Vf
open PySem L2 PyProof.Rows
theorem hu65 {k : Nat} {A : Around} (hr : Room k A) : A.units + 65 < cLine := by have := hr.un; omega
def kD : Key → PyData
  | .inl n => .int n
  | .inr s => .str s
def memD (k : List Key) : PyData := .tuple (k.map kD)
theorem eqv_kD (x y : Key) : PyData.eqv (kD x) (kD y) = decide (x = y) := by
  rw [Bool.eq_iff_iff]
  cases x <;> cases y <;> simp [kD, PyData.eqv]
theorem eqv_memD (x y : List Key) : PyData.eqv (memD x) (memD y) = decide (x = y) := by
  show PyData.eqv (.tuple (x.map kD)) (.tuple (y.map kD)) = _
  rw [PyData.eqv]; exact eqvAll_inj eqv_kD x y
def okK : Key → Prop
  | .inl _ => True
  | .inr s => PyData.strOk s = true
def okM (k : List Key) : Prop := ∀ x ∈ k, okK x
theorem lay_kD {x : Key} (h : okK x) : PyData.canLay0 (kD x) = true := by
  cases x with
  | inl n => simp [kD, PyData.canLay0]
  | inr s => simp only [kD, PyData.canLay0]; exact h
theorem lay_kDs : ∀ {k : List Key}, okM k → PyData.canLayAll0 (k.map kD) = true
  | [], _ => by simp [PyData.canLayAll0]
  | x :: r, h => by
    simp only [List.map_cons, PyData.canLayAll0, Bool.and_eq_true]
    exact ⟨lay_kD (h x List.mem_cons_self), lay_kDs fun y hy => h y (List.mem_cons_of_mem _ hy)⟩
theorem dep_kD (x : Key) : PyData.depth (kD x) ≤ 0 := by cases x <;> simp [kD, PyData.depth]
theorem dep_memD (k : List Key) : PyData.depth (memD k) ≤ 1 := by
  show PyData.depth (.tuple (k.map kD)) ≤ 1
  rw [PyData.depth]; have := depth_all dep_kD k; omega
theorem lay_memDs : ∀ {ks : List (List Key)}, (∀ k ∈ ks, okM k) → PyData.canLayAll0 (ks.map memD) = true
  | [], _ => by simp [PyData.canLayAll0]
  | x :: r, h => by
    simp only [List.map_cons, PyData.canLayAll0, Bool.and_eq_true]
    refine ⟨?_, lay_memDs fun y hy => h y (List.mem_cons_of_mem _ hy)⟩
    show PyData.canLay0 (.tuple (x.map kD)) = true
    simp only [PyData.canLay0]
    exact lay_kDs (h x List.mem_cons_self)
theorem shaped_memD {k : List Key} (h : okM k) : SeqAt.shaped (memD k) = true := shaped_of (n := 1) (by
    show PyData.canLay0 (.tuple (k.map kD)) = true
    simp only [PyData.canLay0]
    exact lay_kDs h) (dep_memD k) (by decide)
theorem shaped_memDs {ks : List (List Key)} (h : ∀ k ∈ ks, okM k) : SeqAt.shaped (.list (ks.map memD)) = true := shaped_of (n := 2) (by
    simp only [PyData.canLay0]
    exact lay_memDs h) (by rw [PyData.depth]; have := depth_all dep_memD ks; omega) (by decide)
theorem dpAll_k {K : PySem.W.Frag} (H : Hp) : ∀ k : List Key, DpAll K H (k.map kV) (k.map kD)
  | [] => .nil
  | .inl n :: k => .cons (.int n) (dpAll_k H k)
  | .inr s :: k => .cons (.str s) (dpAll_k H k)
theorem dp_mem {K : PySem.W.Frag} {H : Hp} {t : Addr} {k : List Key} (h : H t = some (.tup (k.map kV))) : Dp K H (.ref t) (memD k) := .tup (SqT.of h) (dpAll_k H k)

def mkS (l : List Nat) : Str := ⟨l.toArray⟩
theorem tl_mkS (l : List Nat) : TL.tl (mkS l) = l := by simp [mkS, TL.tl]
theorem mkS_tl (y : Str) : mkS (TL.tl y) = y := TL.ext_tl (tl_mkS _)
theorem mkS_snoc (l : List Nat) (c : Nat) : mkS l ++ sg c = mkS (l ++ [c]) := TL.ext_tl (by rw [TL.tl_append, tl_mkS, tl_mkS, sg_tl])
theorem mkS_len (l : List Nat) : (mkS l).length = l.length := by rw [TL.len_tl, tl_mkS]
theorem small13 {n : Nat} (h : n ≤ 100000) : n ≤ sizeLine := Nat.le_trans h (by decide)
/-- keys that are data -/
structure KdD {κ : Type} [DecidableEq κ] (kd : Kd κ) where
  dat : κ → PyData
  ok : κ → Prop
  dp : ∀ {K : PySem.W.Frag} {H : Hp} {v : V} {k : κ}, kd.at_ H v k → Dp K H v (dat k)
  eqv : ∀ a b, PyData.eqv (dat a) (dat b) = decide (a = b)
  lay : ∀ k, ok k → PyData.canLay0 (dat k) = true
  dep : ∀ k, PyData.depth (dat k) ≤ 1
def kddK : KdD kdK where
  dat := kD
  ok := okK
  dp := fun {K H v k} h => by
    cases k with
    | inl n => obtain rfl : v = .int n := h; exact .int n
    | inr s => obtain rfl : v = .str s := h; exact .str s
  eqv := eqv_kD
  lay := fun k h => lay_kD h
  dep := fun k => Nat.le_trans (dep_kD k) (by decide)
def kddT : KdD kdT where
  dat := memD
  ok := okM
  dp := fun {K H v k} h => by
    obtain ⟨b, rfl, hb⟩ := h
    exact dp_mem hb
  eqv := eqv_memD
  lay := fun k h => by
    show PyData.canLay0 (.tuple (k.map kD)) = true
    simp only [PyData.canLay0]
    exact lay_kDs h
  dep := dep_memD
section
variable {κ : Type} [DecidableEq κ] {kd : Kd κ} (D : KdD kd)
theorem KdD.layAll : ∀ {ks : List κ}, (∀ k ∈ ks, D.ok k) → PyData.canLayAll0 (ks.map D.dat) = true
  | [], _ => by simp [PyData.canLayAll0]
  | x :: r, h => by
    simp only [List.map_cons, PyData.canLayAll0, Bool.and_eq_true]
    exact ⟨D.lay x (h x List.mem_cons_self), KdD.layAll fun y hy => h y (List.mem_cons_of_mem _ hy)⟩
theorem KdD.shaped {k : κ} (h : D.ok k) : SeqAt.shaped (D.dat k) = true := shaped_of (n := 1) (D.lay k h) (D.dep k) (by decide)
theorem KdD.shapeds {ks : List κ} (h : ∀ k ∈ ks, D.ok k) : SeqAt.shaped (.list (ks.map D.dat)) = true := shaped_of (n := 2) (by
    simp only [PyData.canLay0]
    exact D.layAll h) (by rw [PyData.depth]; have := depth_all D.dep ks; omega) (by decide)
theorem KdD.any (ks : List κ) (k : κ) : ((ks.map D.dat).any fun z => PyData.eqv z (D.dat k)) = true ↔ k ∈ ks := by
  simp only [List.any_map, List.any_eq_true, Function.comp_apply, D.eqv, decide_eq_true_eq]
  exact ⟨fun ⟨x, hx, e⟩ => by rw [← e]; exact hx, fun h => ⟨k, h, rfl⟩⟩
theorem KdD.dps {K : PySem.W.Frag} {H : Hp} : ∀ {vs : List V} {ks : List κ}, Forall2 (kd.at_ H) vs ks → DpAll K H vs (ks.map D.dat)
  | [], [], _ => .nil
  | [], _ :: _, h => by have := h.1; cases this
  | _ :: _, [], h => by have := h.1; cases this
  | v :: vs, k :: ks, h => .cons (D.dp (h.2 0 v k rfl rfl)) (KdD.dps ⟨by have := h.1; simpa using this, fun i x y e1 e2 => h.2 (i + 1) x y e1 e2⟩)
end
theorem mt_indexDK {X : Cx} {K : PySem.W.Frag} (hK : X.K = K) (hu : X.A.units + 65 < cLine) : MtR X "list.index" (rIndexD K) := by subst hK; exact mt_indexD hu
theorem pe_bmK {X : Cx} {K : PySem.W.Frag} (hK : X.K = K) {T id : String} {name : Str} {r : V → List V → Hp → VK → Prop} {o e : Expr} {es : List Expr} {to : TE} {t : TA} {apos cpos : Pos} (pa : PlainAttrs T) (slot : Slot T name id) (hty : typeOf (.builtin id) = pure (.type "method_descriptor")) (hm : MtR X id r) (ho : PE X o to) (ha : PA X (e :: es) t)
    (hbase : attributeBase o name X.env (eval o X.env) = eval o X.env := by rfl)
    (hfew : ((backTo cpos (starEach (e :: es) X.env)).all (fun x => !x.1) && (backToKw cpos (keywordEach [] X.env)).all (fun x => x.1.isSome)
      && decide ((e :: es).length + ([] : List Keyword).length + (if ([] : List Keyword).isEmpty then 0 else 1) < 30)) = true := by rfl)
    (hline : (apos.endLine == cpos.line) = true := by rfl) (hs : starEach (e :: es) X.env = (false, eval e X.env) :: starEach es X.env := by rfl) (hplain : (backTo cpos (starEach es X.env)).any (·.1) = false := by rfl) :
    PE X (.Call (.Attribute o name apos) (e :: es) [] cpos) (tBM K T r to t) := by
  subst hK; exact pe_bm pa slot hty hm ho ha hbase hfew hline hs hplain
/-- a def that may raise, where it raises nothing -/
theorem FnOk.calm {P : Program} {w : World} {K : PySem.W.Frag} {mg : Str → Option Value} {base : Heap} {k : Nat} {f : Addr} {fd : FuncData} {ps : List Str} {sp : Sp} (F : FnOk P w K mg base (L2.CX P w) k f fd ps sp) : FnOk P w K mg base CX0 k f fd ps (fun vs H Q _ => sp vs H Q E0) :=
  ⟨fun vs H Q E q => F.len _ _ _ _ q, fun A outer s H args us vs Q E hr he hb hv hs => codeAny_mono (F.run A outer s H args us vs Q E0 hr he hb hv hs) fun r s' h => by
    cases r with
    | error e =>
      obtain ⟨_, _, _, _, _, _, _, _, _, _, _, _, z⟩ := h
      exact z.elim
    | ok fl => cases fl <;> exact h⟩
/-! where lambdas stand -/
def stVal : Stmt → Expr
  | .Assign _ v _ => v
  | .Return (some v) _ => v
  | _ => .Constant .none 0 ⟨0, 0, 0, 0⟩
def argN : Expr → Nat → Expr
  | .Call _ as _ _, i => as.getD i (.Constant .none 0 ⟨0, 0, 0, 0⟩)
  | e, _ => e
def lamScope : Expr → Scope
  | .Lambda _ _ s _ => s
  | _ => default
def lamBody : Expr → Expr
  | .Lambda _ b _ _ => b
  | e => e
def lamArgs : Expr → Arguments
  | .Lambda a _ _ _ => a
  | _ => default

open NdefX LamX in
def LF (e : Expr) (qual : Str) (cl : List (Str × Addr)) (c : Addr) : NF := ⟨"<lambda>", qual, lamArgs e, [], lamScope e, cl, c⟩
def forBody : Stmt → Nat → Stmt
  | .For _ _ b _ _, j => b.getD j (.Pass ⟨0, 0, 0, 0⟩)
  | s, _ => s
def ifTest : Stmt → Expr
  | .If t _ _ _ => t
  | _ => .Constant .none 0 ⟨0, 0, 0, 0⟩
def cmpLeft : Expr → Expr
  | .Compare l _ _ _ => l
  | e => e
def boolN : Expr → Nat → Expr
  | .BoolOp _ vs _, j => vs.getD j (.Constant .none 0 ⟨0, 0, 0, 0⟩)
  | e, _ => e
end Vf
set_option Elab.async false
set_option linter.all false
set_option maxRecDepth 100000
set_option maxHeartbeats 4000000
/-! a function in a cell of another one: each with its own cells alone -/
namespace Vf
open PySem L2 PyProof.Rows NdefX LamX
/-- those of the cells that a closure names -/
def cut (cl : List (Str × Addr)) (cs : Cs) : Cs := cs.filter fun p => cl.any fun q => q.2 == p.1 && (cl.lookup q.1 == some p.1)
def inCl (cl : List (Str × Addr)) (c : Addr) : Bool := cl.any fun q => q.2 == c && (cl.lookup q.1 == some c)
theorem inCl_of {cl : List (Str × Addr)} {y : Str} {c : Addr} (h : cl.lookup y = some c) : inCl cl c = true := by
  have hm : (y, c) ∈ cl := by
    induction cl with
    | nil => cases h
    | cons a r ih =>
      obtain ⟨n, d⟩ := a
      rw [List.lookup_cons] at h
      cases q : y == n with
      | true =>
        rw [q] at h
        cases h
        rw [beq_iff_eq.mp q]
        exact List.mem_cons_self
      | false =>
        rw [q] at h
        exact List.mem_cons_of_mem _ (ih h)
  unfold inCl
  rw [List.any_eq_true]
  exact ⟨(y, c), hm, by simp [h]⟩
theorem inCl_some {cl : List (Str × Addr)} {c : Addr} (h : inCl cl c = true) : ∃ y, cl.lookup y = some c := by
  unfold inCl at h
  rw [List.any_eq_true] at h
  obtain ⟨q, _, e⟩ := h
  rw [Bool.and_eq_true] at e
  exact ⟨q.1, beq_iff_eq.mp e.2⟩
theorem lookup_filter {α : Type} (p : Addr → Bool) (c : Addr) : ∀ cs : List (Addr × α), (cs.filter fun x => p x.1).lookup c = if p c = true then cs.lookup c else none
  | [] => by simp
  | (a, o) :: r => by
    have ih := lookup_filter p c r
    by_cases hp : p a = true
    · rw [List.filter_cons_of_pos (by simpa using hp), List.lookup_cons, List.lookup_cons]
      cases q : c == a with
      | true =>
        have : c = a := beq_iff_eq.mp q
        subst this
        dsimp only
        rw [if_pos hp]
      | false =>
        dsimp only
        exact ih
    · rw [List.filter_cons_of_neg (by simpa using hp), List.lookup_cons, ih]
      cases q : c == a with
      | true =>
        have : c = a := beq_iff_eq.mp q
        subst this
        rw [if_neg hp, if_neg hp]
      | false => rfl
theorem cut_lookup (cl : List (Str × Addr)) (cs : Cs) (c : Addr) : (cut cl cs).lookup c = if inCl cl c = true then cs.lookup c else none := lookup_filter (inCl cl) c cs
theorem cut_some {cl : List (Str × Addr)} {cs : Cs} {c : Addr} {o : Obj} (h : (cut cl cs).lookup c = some o) : cs.lookup c = some o ∧ ∃ y, cl.lookup y = some c := by
  rw [cut_lookup] at h
  split at h
  · rename_i q
    exact ⟨h, inCl_some q⟩
  · cases h
theorem cut_of {cl : List (Str × Addr)} {cs : Cs} {c : Addr} {o : Obj} {y : Str} (h : cl.lookup y = some c) (e : cs.lookup c = some o) : (cut cl cs).lookup c = some o := by
  rw [cut_lookup, if_pos (inCl_of h)]
  exact e
theorem Cap.cut {cl : List (Str × Addr)} {fr : List Str} {ws : List (Option V)} {cs : Cs} (h : Cap cl fr ws cs) : Cap cl fr ws (Vf.cut cl cs) := by
  refine ⟨h.len, fun c o e => h.cell c o (cut_some e).1, fun y c e => ?_, h.inj, fun i y e => ?_⟩
  · obtain ⟨o, ho⟩ := h.all y c e
    exact ⟨o, cut_of e ho⟩
  · obtain ⟨c, hc, hv⟩ := h.has i y e
    refine ⟨c, hc, fun v ev => ?_⟩
    obtain ⟨u, o, r, ho, hd⟩ := hv v ev
    exact ⟨u, o, r, cut_of hc ho, hd⟩
theorem HeldC.cut {cs : Cs} {H : Hp} (h : HeldC cs H) (cl : List (Str × Addr)) : HeldC (Vf.cut cl cs) H := fun c o e => h c o (cut_some e).1
theorem CellsData.cut {cs : Cs} (h : CellsData cs) (cl : List (Str × Addr)) : CellsData (Vf.cut cl cs) := fun c o e => h c o (cut_some e).1
/-- a cell is no function -/
theorem cellX_fn {c : Addr} {o : Obj} {F : NF} {v : Option Value} (hd : o.data = .cell v) : CellX c o ≠ FnO c F := fun z => by
  unfold CellX FnO at z
  have z2 := HO.ext.inj z
  have e : ({ objs := Array.replicate (c + 1) o } : Heap).get? c = some o := by
    unfold Heap.get?
    have : (Array.replicate (c + 1) o)[c]? = some o := by simp
    rw [this]
    obtain ⟨a, b, d, sl⟩ := o
    have hd : d = .cell v := hd
    subst hd
    rfl
  have h1 := congrFun z2 ({ objs := Array.replicate (c + 1) o } : Heap)
  have h2 : ∃ (od : Option Addr) (sl : Array (Option Value)) (doc pm ctv : Value), ({ objs := Array.replicate (c + 1) o } : Heap).get? c = some (⟨.type "function", od, .func (F.fd doc pm ctv), sl⟩ : Obj) := by
    rw [← h1]; exact e
  obtain ⟨od, sl, doc, pm, ctv, h⟩ := h2
  rw [e] at h
  cases h
  cases hd
theorem heldF_hid {f : Addr} {F : NF} {cs1 cs2 : Cs} {H : Hp} (h : HeldF f F cs1 H) (hc : HeldC cs2 H) (hd : CellsData cs2) (n : ∀ c o, cs1.lookup c = some o → cs2.lookup c = none) : HeldF f F cs1 (hid cs2 H) := by
  refine ⟨?_, ?_, fun c o e => ?_⟩
  · have : cs2.lookup f = none := by
      cases q : cs2.lookup f with
      | none => rfl
      | some o =>
        obtain ⟨v, hv⟩ := hd f o q
        have := hc f o q
        rw [h.fn] at this
        exact absurd (Option.some.inj this).symm (cellX_fn hv)
    rw [hid_out this]; exact h.fn
  · have : cs2.lookup F.c = none := by
      cases q : cs2.lookup F.c with
      | none => rfl
      | some o =>
        obtain ⟨v, hv⟩ := hd F.c o q
        have := hc F.c o q
        rw [h.code] at this
        exact absurd (Option.some.inj this).symm (cellX_code hv)
    rw [hid_out this]; exact h.code
  · rw [hid_out (n c o e)]; exact h.cells c o e
/-- a cell is no lambda -/
theorem cellX_lam {c : Addr} {o : Obj} {F : NF} {e0 : Expr} {v : Option Value} (hd : o.data = .cell v) : CellX c o ≠ FnL c F e0 := fun z => by
  unfold CellX FnL at z
  have z2 := HO.ext.inj z
  have e : ({ objs := Array.replicate (c + 1) o } : Heap).get? c = some o := by
    unfold Heap.get?
    have : (Array.replicate (c + 1) o)[c]? = some o := by simp
    rw [this]
    obtain ⟨a, b, d, sl⟩ := o
    have hd : d = .cell v := hd
    subst hd
    rfl
  have h1 := congrFun z2 ({ objs := Array.replicate (c + 1) o } : Heap)
  have h2 : ∃ (pm ctv : Value), ({ objs := Array.replicate (c + 1) o } : Heap).get? c = some (lamO F e0 pm ctv) := by
    rw [← h1]; exact e
  obtain ⟨pm, ctv, h⟩ := h2
  rw [e] at h
  cases h
  cases hd
theorem heldL_hid {f : Addr} {F : NF} {e0 : Expr} {cs1 cs2 : Cs} {H : Hp} (h : HeldL f F e0 cs1 H) (hc : HeldC cs2 H) (hd : CellsData cs2) (n : ∀ c o, cs1.lookup c = some o → cs2.lookup c = none) : HeldL f F e0 cs1 (hid cs2 H) := by
  refine ⟨?_, ?_, fun c o e => ?_⟩
  · have : cs2.lookup f = none := by
      cases q : cs2.lookup f with
      | none => rfl
      | some o =>
        obtain ⟨v, hv⟩ := hd f o q
        have := hc f o q
        rw [h.fn] at this
        exact absurd (Option.some.inj this).symm (cellX_lam hv)
    rw [hid_out this]; exact h.fn
  · have : cs2.lookup F.c = none := by
      cases q : cs2.lookup F.c with
      | none => rfl
      | some o =>
        obtain ⟨v, hv⟩ := hd F.c o q
        have := hc F.c o q
        rw [h.code] at this
        exact absurd (Option.some.inj this).symm (cellX_code hv)
    rw [hid_out this]; exact h.code
  · rw [hid_out (n c o e)]; exact h.cells c o e
/-- closures with no name in common have no cell in common -/
theorem clo_free {cells : List (Str × Addr)} : ∀ {names : List (Str × NameKind)} {acc : List (Str × Addr)} {y : Str} {c : Addr}, (cloFrom cells names acc).lookup y = some c → (y, NameKind.free) ∈ names ∨ acc.lookup y = some c
  | [], _, _, _, h => .inr h
  | (n, k) :: r, acc, y, c, h => by
    unfold cloFrom at h
    split at h
    · rename_i hk
      rcases clo_free (names := r) h with q | q
      · exact .inl (List.mem_cons_of_mem _ q)
      · rw [List.lookup_cons] at q
        cases e : y == n with
        | true =>
          have e1 : y = n := beq_iff_eq.mp e
          have e2 : k = .free := beq_iff_eq.mp hk
          rw [e1, e2]
          exact .inl List.mem_cons_self
        | false =>
          rw [e] at q
          exact .inr q
    · rcases clo_free (names := r) h with q | q
      · exact .inl (List.mem_cons_of_mem _ q)
      · exact .inr q
theorem cut_apart {X : Cx} {σ : L2.St} {cs : Cs} {s1 s2 : Scope} (C : CapX X σ cs) (h1 : ∀ y ∈ s1.names, y.2 = .free → X.env.scope.names.lookup y.1 = some .cell) (h2 : ∀ y ∈ s2.names, y.2 = .free → X.env.scope.names.lookup y.1 = some .cell)
    (ap : (s1.names.all fun y => !decide (y.2 = .free) || !decide ((y.1, NameKind.free) ∈ s2.names)) = true) : ∀ c o, (cut (cloFrom X.env.cells s1.names []) cs).lookup c = some o → (cut (cloFrom X.env.cells s2.names []) cs).lookup c = none := by
  intro c o e
  cases q : (cut (cloFrom X.env.cells s2.names []) cs).lookup c with
  | none => rfl
  | some o2 =>
    obtain ⟨_, y1, e1⟩ := cut_some e
    obtain ⟨_, y2, e2⟩ := cut_some q
    have f1 : ∀ y ∈ s1.names, y.2 = .free → ∃ a, X.env.cells.lookup y.1 = some a := fun y hy ey => C.ok.has _ (.inl (h1 y hy ey))
    have f2 : ∀ y ∈ s2.names, y.2 = .free → ∃ a, X.env.cells.lookup y.1 = some a := fun y hy ey => C.ok.has _ (.inl (h2 y hy ey))
    have g1 := clo_cm f1 e1
    have g2 := clo_cm f2 e2
    have ey : y1 = y2 := C.ok.inj y1 y2 c g1 g2
    subst ey
    have m1 := (clo_free e1).resolve_right (by simp)
    have m2 := (clo_free e2).resolve_right (by simp)
    have := List.all_eq_true.mp ap _ m1
    simp [m2] at this
end Vf
set_option Elab.async false
set_option linter.all false
set_option maxRecDepth 100000
set_option maxHeartbeats 4000000
namespace Vf
open PySem L2 PyProof.Rows
def cup (l : Str) (m : Int) (c : Nat) : Int := if l ≠ "" ∧ l ≠ sg c then m + 1 else m
inductive LSort | every | rising | changes (n : Nat)
def fl (y : List Nat) : List Nat := (List.range (y.length - 1)).filter fun i => decide (y.getD (i + 1) 0 < y.getD i 0)
def chl (y : List Nat) : List Nat := (List.range (y.length - 1)).filter fun i => !decide (y.getD (i + 1) 0 = y.getD i 0)
theorem adj_snoc (p : Nat → Nat → Bool) (y : List Nat) (c : Nat) (h : y ≠ []) :
    ((List.range ((y ++ [c]).length - 1)).filter fun i => p ((y ++ [c]).getD (i + 1) 0) ((y ++ [c]).getD i 0)) = ((List.range (y.length - 1)).filter fun i => p (y.getD (i + 1) 0) (y.getD i 0)) ++ if p c (y.getLast h) = true then [y.length - 1] else [] := by
  have hp : 0 < y.length := List.length_pos_iff.mpr h
  have e1 : (y ++ [c]).length - 1 = (y.length - 1) + 1 := by rw [List.length_append, List.length_singleton]; omega
  rw [e1, List.range_succ, List.filter_append]
  have gd : ∀ (l : List Nat) (i : Nat) (hi : i < l.length), l.getD i 0 = l[i] := fun l i hi => by rw [List.getD_eq_getElem?_getD, List.getElem?_eq_getElem hi, Option.getD_some]
  congr 1
  · refine List.filter_congr fun i hi => ?_
    have hi := List.mem_range.mp hi
    have hl : (y ++ [c]).length = y.length + 1 := by rw [List.length_append, List.length_singleton]
    rw [gd _ (i + 1) (by omega), gd _ i (by omega), gd y (i + 1) (by omega), gd y i (by omega), List.getElem_append_left (by omega), List.getElem_append_left (by omega)]
  · have hl : (y ++ [c]).length = y.length + 1 := by rw [List.length_append, List.length_singleton]
    have h1 : (y ++ [c]).getD (y.length - 1 + 1) 0 = c := by
      rw [gd _ _ (by omega)]
      rw [List.getElem_append_right (by omega)]
      simp
    have h2 : (y ++ [c]).getD (y.length - 1) 0 = y.getLast h := by
      rw [gd _ _ (by omega), List.getElem_append_left (by omega), List.getLast_eq_getElem]
    show List.filter _ [y.length - 1] = _
    rw [List.filter_cons, h1, h2]
    rfl
/-- what a column leaves, by the law -/
def muM (s : LSort) (c0 : Nat) (y : List Nat) : List Key := match s with
  | .every => [.inr "all"]
  | .rising => if fl y = [] then [.inr (sg (y.getLastD c0))] else [.inr "lost"]
  | .changes n => if n < (chl y).length then [.inr "lost"] else [.inr (mkS (y.drop (y.length - 1))), .inl ((chl y).length : Int)]
def lstR : List Key → Nat → List Key
  | [.inr m], c => if m = "lost" then [.inr "lost"] else if (sg c).cps.toList < m.cps.toList then [.inr "lost"] else [.inr (sg c)]
  | k, _ => k
def lstC (n : Nat) : List Key → Nat → List Key
  | [.inr l, .inl m], c => if cup l m c ≤ n then [.inr (sg c), .inl (cup l m c)] else [.inr "lost"]
  | k, _ => k
def lstM : LSort → List Key → Nat → List Key
  | .every => fun k _ => k
  | .rising => lstR
  | .changes n => lstC n
theorem lt_sg (c d : Nat) : ((sg c).cps.toList < (sg d).cps.toList) ↔ c < d := by
  show ([c] < [d]) ↔ _
  rw [List.cons_lt_cons_iff]
  exact ⟨fun h => h.elim id fun q => absurd q.2 (List.not_lt_nil _), Or.inl⟩
theorem last_drop {y : List Nat} (h : y ≠ []) : y.drop (y.length - 1) = [y.getLast h] := by
  have hp : 0 < y.length := List.length_pos_iff.mpr h
  rw [List.drop_eq_getElem_cons (by omega), List.getLast_eq_getElem, show y.length - 1 + 1 = y.length by omega, List.drop_length]
theorem sg_lost (c : Nat) : ¬ sg c = "lost" := fun q => by
  have := congrArg (fun s => (TL.tl s).length) q
  exact absurd this (by show ¬ (1 = _); decide +kernel)
theorem sg_empty (c : Nat) : ¬ sg c = "" := fun q => by
  have := congrArg (fun s => (TL.tl s).length) q
  exact absurd this (by show ¬ (1 = _); decide +kernel)
theorem getLastD_snoc (y : List Nat) (c d : Nat) : (y ++ [c]).getLastD d = c := by simp
theorem getLastD_ne {y : List Nat} (h : y ≠ []) (d : Nat) : y.getLastD d = y.getLast h := by
  cases y with
  | nil => exact absurd rfl h
  | cons a r => rfl
theorem lstR_eq (m : Str) (c : Nat) : lstR [.inr m] c = if m = "lost" then [.inr "lost"] else if (sg c).cps.toList < m.cps.toList then [.inr "lost"] else [.inr (sg c)] := rfl
theorem lstC_eq (n : Nat) (l : Str) (m : Int) (c : Nat) : lstC n [.inr l, .inl m] c = if cup l m c ≤ n then [.inr (sg c), .inl (cup l m c)] else [.inr "lost"] := rfl
theorem muM_snoc (s : LSort) {L : List Nat} {c0 : Nat} (h0 : ∀ d ∈ L, c0 ≤ d) (y : List Nat) (c : Nat) (hc : c ∈ L) : muM s c0 (y ++ [c]) = lstM s (muM s c0 y) c := by
  cases s with
  | every => rfl
  | rising =>
    show (if fl (y ++ [c]) = [] then _ else _) = lstR (if fl y = [] then _ else _) c
    by_cases hy : y = []
    · subst hy
      have e1 : fl ([] ++ [c]) = [] := rfl
      have e2 : fl [] = [] := rfl
      rw [if_pos e1, if_pos e2, lstR_eq, if_neg (sg_lost _), if_neg (by
        rw [lt_sg]
        have := h0 c hc
        show ¬ c < c0
        omega)]
      rfl
    · have e := adj_snoc (fun a b => decide (a < b)) y c hy
      have e : fl (y ++ [c]) = fl y ++ if decide (c < y.getLast hy) = true then [y.length - 1] else [] := e
      rw [e, getLastD_snoc, getLastD_ne hy]
      by_cases h1 : fl y = []
      · rw [h1, List.nil_append, if_pos rfl, lstR_eq, if_neg (sg_lost _)]
        by_cases h2 : c < y.getLast hy
        · have e3 : (if decide (c < y.getLast hy) = true then [y.length - 1] else []) = [y.length - 1] := if_pos (decide_eq_true h2)
          rw [e3, if_neg (by simp), if_pos ((lt_sg _ _).mpr h2)]
        · have e3 : (if decide (c < y.getLast hy) = true then [y.length - 1] else []) = [] := if_neg fun q => h2 (of_decide_eq_true q)
          rw [e3, if_pos rfl, if_neg fun q => h2 ((lt_sg _ _).mp q)]
      · rw [if_neg (fun q => h1 (List.append_eq_nil_iff.mp q).1), if_neg h1, lstR_eq, if_pos rfl]
  | changes n =>
    show (if n < (chl (y ++ [c])).length then _ else _) = lstC n (if n < (chl y).length then _ else _) c
    have ed : mkS ((y ++ [c]).drop ((y ++ [c]).length - 1)) = sg c := by
      rw [List.length_append, List.length_singleton, show y.length + 1 - 1 = y.length by omega, List.drop_left]
      rfl
    rw [ed]
    have key : ((chl (y ++ [c])).length : Int) = cup (mkS (y.drop (y.length - 1))) (chl y).length c ∧ (chl y).length ≤ (chl (y ++ [c])).length := by
      by_cases hy : y = []
      · subst hy
        refine ⟨?_, Nat.le_refl _⟩
        have e3 : cup (mkS []) 0 c = 0 := if_neg fun q => q.1 rfl
        exact e3.symm
      · have e := adj_snoc (fun a b => !decide (a = b)) y c hy
        have e : chl (y ++ [c]) = chl y ++ if (!decide (c = y.getLast hy)) = true then [y.length - 1] else [] := e
        have el : mkS (y.drop (y.length - 1)) = sg (y.getLast hy) := by
          rw [last_drop hy]
          rfl
        rw [el, e]
        unfold cup
        by_cases h2 : c = y.getLast hy
        · rw [decide_eq_true h2, if_neg (by decide), List.append_nil, if_neg fun q => q.2 (by rw [h2])]
          exact ⟨rfl, Nat.le_refl _⟩
        · rw [decide_eq_false h2, if_pos (by decide), if_pos ⟨sg_empty _, fun q => h2 (sg_inj q).symm⟩, List.length_append, List.length_singleton]
          exact ⟨by omega, by omega⟩
    obtain ⟨k1, k2⟩ := key
    by_cases h1 : n < (chl y).length
    · rw [if_pos (by omega), if_pos h1]
      rfl
    · rw [if_neg h1, lstC_eq, ← k1]
      by_cases h2 : n < (chl (y ++ [c])).length
      · rw [if_pos h2, if_neg (by omega)]
      · rw [if_neg h2, if_pos (by omega)]
def lostK : List Key := [.inr "lost"]
def keepL (k : List Key) : Bool := !decide (k = lostK)
/-- the law's machine -/
def mach (N : Nat) (s : LSort) (L : List Nat) (c0 : Nat) : List (List Key) × List (List Nat) := turns (lstM s) L (muM s c0 []) N
end Vf
set_option Elab.async false
set_option linter.all false
set_option maxRecDepth 100000
set_option maxHeartbeats 4000000
namespace Vf
open PySem L2 PyProof.Rows
open NdefX LamX
abbrev s__law_memory : Stmt := top 32
abbrev N__law_memory : List Str := ["_law_sort_here", "_law_letters_here", "_law_column_here", "_law_falls", "_law_many", "_law_k"]
abbrev P__law_memory : List Str := ["_law_sort_here", "_law_letters_here", "_law_column_here"]
theorem sc__law_memory : FnScope N__law_memory P__law_memory (defScope s__law_memory) := ⟨rfl, rfl, rfl, by decide +kernel, rfl, by decide +kernel, by decide +kernel⟩

def datM : List Key → PyData
  | [.inr s] => .str s
  | k => memD k
theorem eqv_datM : ∀ a b : List Key, PyData.eqv (datM a) (datM b) = decide (a = b) := by
  intro a b
  have hs : ∀ (s : Str) (k : List Key), PyData.eqv (.str s) (memD k) = false := fun s k => by simp [memD, PyData.eqv]
  have hs2 : ∀ (s : Str) (k : List Key), PyData.eqv (memD k) (.str s) = false := fun s k => by simp [memD, PyData.eqv]
  have c1 : ∀ a : List Key, (∃ s : Str, a = [.inr s] ∧ datM a = .str s) ∨ ((∀ s : Str, a ≠ [.inr s]) ∧ datM a = memD a) := fun a => by
    match a with
    | [] => exact Or.inr ⟨(fun s q => nomatch q), rfl⟩
    | [.inl n] => exact Or.inr ⟨(fun s q => nomatch (List.cons.inj q).1), rfl⟩
    | [.inr s] => exact Or.inl ⟨s, rfl, rfl⟩
    | x :: y :: r => exact Or.inr ⟨(fun s q => nomatch (List.cons.inj q).2), by cases x <;> rfl⟩
  rcases c1 a with ⟨s, e1, e2⟩ | ⟨h1, e1⟩ <;> rcases c1 b with ⟨u, e3, e4⟩ | ⟨h2, e2'⟩
  · rw [e2, e4, e1, e3]
    have : PyData.eqv (.str s) (.str u) = decide (s = u) := by rw [Bool.eq_iff_iff]; simp [PyData.eqv]
    rw [this, Bool.eq_iff_iff]
    simp
  · rw [e2, e2', hs, e1]
    exact (decide_eq_false fun q => h2 s q.symm).symm
  · rw [e1, e4, hs2, e3]
    exact (decide_eq_false fun q => h1 u q).symm
  · rw [e1, e2']
    exact eqv_memD a b
def MAt (H : Hp) (v : V) : List Key → Prop
  | [.inr s] => v = .str s
  | k => ∃ b, v = .ref b ∧ H b = some (.tup (k.map kV))
theorem mat_cases (k : List Key) : (∃ s : Str, k = [.inr s]) ∨ ((∀ (H : Hp) (v : V), MAt H v k ↔ ∃ b, v = .ref b ∧ H b = some (.tup (k.map kV))) ∧ datM k = memD k) := by
  match k with
  | [] => exact Or.inr ⟨fun _ _ => Iff.rfl, rfl⟩
  | [.inl n] => exact Or.inr ⟨fun _ _ => Iff.rfl, rfl⟩
  | [.inr s] => exact Or.inl ⟨s, rfl⟩
  | x :: y :: r => exact Or.inr ⟨fun _ _ => by cases x <;> exact Iff.rfl, by cases x <;> rfl⟩
theorem MAt.keep {H H' : Hp} {v : V} {k : List Key} (h : MAt H v k) (kk : ∀ b xs, H b = some (.tup xs) → H' b = some (.tup xs)) : MAt H' v k := by
  rcases mat_cases k with ⟨s, rfl⟩ | ⟨q, _⟩
  · exact h
  · obtain ⟨b, e, hb⟩ := (q H v).mp h
    exact (q H' v).mpr ⟨b, e, kk _ _ hb⟩
theorem MAt.dp {K : PySem.W.Frag} {H : Hp} {v : V} {k : List Key} (h : MAt H v k) : Dp K H v (datM k) := by
  rcases mat_cases k with ⟨s, rfl⟩ | ⟨q, e⟩
  · obtain rfl : v = .str s := h
    exact .str s
  · obtain ⟨b, rfl, hb⟩ := (q H v).mp h
    rw [e]
    exact dp_mem hb
def SortAt (K : PySem.W.Frag) (H : Hp) (v : V) (s : LSort) : Prop := ∃ a, v = .ref a ∧ SqT K H a (match s with | .every => [.str "every"] | .rising => [.str "rising"] | .changes n => [.str "changes", .int n])
theorem SortAt.same {K : PySem.W.Frag} {H H' : Hp} {v : V} {s : LSort} (x : SortAt K H v s) (k : Same H H') : SortAt K H' v s := by
  obtain ⟨a, e, h⟩ := x
  exact ⟨a, e, (Kl.same k).seqT h⟩
structure TxtMe (mg : Str → Option Value) : Prop where
  range : mg "range" = none
  len : mg "len" = none
section
variable {P : Program} {w : World} {K : PySem.W.Frag} {mg : Str → Option Value} {base : Heap}
def spMemL (K : PySem.W.Frag) : Sp := fun vs H Q _ => ∃ (v : V) (s : LSort) (z y : Str) (c0 : Nat) (r : List Nat), vs = [v, .str z, .str y] ∧ SortAt K H v s ∧ TL.tl z = c0 :: r ∧ z.length ≤ 26 ∧ y.length ≤ 200 ∧
  ∀ v' H', Same H H' → MAt H' v' (muM s c0 (TL.tl y)) → Q v' H'
theorem ok_memL {f : Addr} {fd : FuncData} (F : Fun K "_law_memory" "_law_memory" s__law_memory f fd) (T : TxtMe mg) : FnOk P w K mg base CX0 1 f fd P__law_memory (spMemL K) := by
  refine F.ok sc__law_memory (fun vs H Q E h => ?_) (fun cdv A outer s H vs Q E hr h => ?_)
  · obtain ⟨v, s, z, y, c0, r, rfl, _⟩ := h
    rfl
  · obtain ⟨v, so, z, y, c0, r, rfl, ⟨sa, rfl, hs⟩, hz0, hz, hy, k⟩ := h
    have hu := hu_of hr
    refine ⟨_, (pss_cons (ps_if (pt_cmpR op_eq (pe_ix ix_tup (pv 0) pe_int (fun _ _ => rfl)) pe_str (nomark _)) (pss_one (ps_ret pe_str)) pss_nil)
      (pss_cons (ps_if (pt_cmpR op_eq (pe_ix ix_tup (pv 0) pe_int (fun _ _ => rfl)) pe_str (nomark _)) (pss_cons (ps_setLc (i := 3) (own := [("_law_k", 5)]) (g := gName 5) (by rfl) sc__law_memory.nd rfl rfl (sw_true rfl rfl rfl (by decide +kernel)) (pi_range2 (by rfl) T.range (pa_cons pe_int (pa_cons (pe_callB call_len (by rfl) T.len PySem.boot_len (pa_cons (pv 2) pa_nil)) pa_nil))) (blkOk_by (own := [("_law_k", 5)]) (N := N__law_memory) (sc := defScope s__law_memory) (by decide +kernel)) (fun _ _ _ _ _ => pg_name (i := 5) sc__law_memory.nd rfl (Or.inl rfl)) (fun _ _ _ _ _ => (pts_one (pt_cmpR op_lt_str (pe_ix ix_str (pv 2) (pv 5) (fun _ _ => rfl)) (pe_ix ix_str (pv 2) (pe_op op_sub (pv 5) pe_int) (fun _ _ => rfl)) (nomark _)))) (fun _ _ _ _ _ => (pv 5)))
      (pss_one (ps_ret (pe_ifExp (pt_cmpR (op_neD hr.units) (pv 3) (pe_lst pa_nil) (nomark _)) pe_str (pe_ix ix_str (pe_op op_add_str (pe_slice sl_str (pv 1) po_none (po_some pe_int)) (pv 2)) (pe_un un_neg pe_int) (fun _ _ => rfl)))))) pss_nil)
      (pss_cons (ps_set (i := 4) sc__law_memory.nd rfl (Or.inl rfl) (pe_callB call_len (by rfl) T.len PySem.boot_len (pa_cons (pe_lc (own := [("_law_k", 5)]) (g := gName 5) (by rfl) sc__law_memory.nd (pi_range2 (by rfl) T.range (pa_cons pe_int (pa_cons (pe_callB call_len (by rfl) T.len PySem.boot_len (pa_cons (pv 2) pa_nil)) pa_nil))) (blkOk_by (own := [("_law_k", 5)]) (N := N__law_memory) (sc := defScope s__law_memory) (by decide +kernel)) (fun _ _ _ _ _ => pg_name (i := 5) sc__law_memory.nd rfl (Or.inl rfl)) (fun _ _ _ _ _ => (pts_one (pt_cmpR op_ne (pe_ix ix_str (pv 2) (pv 5) (fun _ _ => rfl)) (pe_ix ix_str (pv 2) (pe_op op_sub (pv 5) pe_int) (fun _ _ => rfl)) (nomark _)))) (fun _ _ _ _ _ => (pv 5))) pa_nil)))
      (pss_one (ps_ret (pe_ifExp (pt_cmpR op_gt (pv 4) (pe_ix ix_tup (pv 0) pe_int (fun _ _ => rfl)) (nomark _)) pe_str (pe_tup (pa_cons (pe_slice sl_str (pv 2) (po_some (pe_un un_neg pe_int)) po_none) (pa_cons (pv 4) pa_nil))))))))), ?_⟩
    have hys : y.length ≤ sizeLine := Nat.le_of_lt (small1000 (by omega))
    have hyl : ((y.length : Int) - 1).toNat = (TL.tl y).length - 1 := by rw [← TL.len_tl]; omega
    cases so with
    | every =>
      refine ⟨_, rfl, sa, _, 0, .str "every", rfl, rfl, hs, rfl, rfl, _, rfl, ite2 (fun _ => ?_) (fun c => absurd rfl c)⟩
      exact k _ H (Same.refl H) rfl
    | rising =>
      refine ⟨_, rfl, sa, _, 0, .str "rising", rfl, rfl, hs, rfl, rfl, _, rfl, ite2 (fun c => absurd c (by decide +kernel)) (fun _ => ?_)⟩
      refine ⟨_, rfl, sa, _, 0, .str "rising", rfl, rfl, hs, rfl, rfl, _, rfl, ite2 (fun _ => ?_) (fun c => absurd rfl c)⟩
      refine ⟨_, rfl, _, _, rfl, ⟨hys, rfl⟩, 1, (y.length : Int), rfl, by omega, fun D hD => lc_range (lo := 1) (n := ((y.length : Int) - 1).toNat) (fun j H3 => H3 D = some (.lst ((((List.range j).filter fun i => decide ((TL.tl y).getD (i + 1) 0 < (TL.tl y).getD i 0)).map fun (i : Nat) => (1 + (i : Int))).map V.int)) ∧ Same H H3) ⟨upd_same, same_new hD⟩ ?_ ?_⟩
      · rintro j H3 hj ⟨hD3, s3⟩
        have hj1 : j + 1 < (TL.tl y).length := by rw [← TL.len_tl]; omega
        have g1 : (TL.tl y).getD j 0 = (TL.tl y)[j] := by rw [List.getD_eq_getElem?_getD, List.getElem?_eq_getElem (by omega)]; rfl
        have g2 : (TL.tl y).getD (j + 1) 0 = (TL.tl y)[j + 1] := by rw [List.getD_eq_getElem?_getD, List.getElem?_eq_getElem hj1]; rfl
        have a1 : atI y.cps.toList (1 + (j : Int)) = some (TL.tl y)[j + 1] := by
          rw [show (1 + (j : Int)) = ((j + 1 : Nat) : Int) by omega]
          exact atI_nat (List.getElem?_eq_getElem hj1)
        have a2 : atI y.cps.toList (1 + (j : Int) - 1) = some (TL.tl y)[j] := by
          rw [show (1 + (j : Int) - 1) = ((j : Nat) : Int) by omega]
          exact atI_nat (List.getElem?_eq_getElem (show j < (TL.tl y).length by omega))
        refine ⟨rfl, _, rfl, _, rfl, y, _, _, rfl, rfl, hys, a1, _, rfl, _, rfl, _, _, rfl, rfl, y, _, _, rfl, rfl, hys, a2, _, _, rfl, rfl, _, rfl, ite2 (fun c1 => ?_) (fun c1 => ?_)⟩
        · have c1 : (TL.tl y)[j + 1] < (TL.tl y)[j] := (lt_sg _ _).mp (of_decide_eq_true c1)
          refine ⟨_, rfl, _, hD3, ?_, ?_, s3.put hD⟩
          · rw [List.length_map, List.length_map]
            refine Nat.lt_of_le_of_lt (List.length_filter_le _ _) ?_
            rw [List.length_range]; exact small1000 (by omega)
          · rw [upd_same, List.range_succ, List.filter_append, List.map_append, List.map_append]
            have : (List.filter (fun i => decide ((TL.tl y).getD (i + 1) 0 < (TL.tl y).getD i 0)) [j]) = [j] := by rw [List.filter_cons, if_pos (by rw [g1, g2]; exact decide_eq_true c1)]; rfl
            rw [this]
            rfl
        · have c1 : ¬ (TL.tl y)[j + 1] < (TL.tl y)[j] := fun q => c1 (decide_eq_true ((lt_sg _ _).mpr q))
          refine ⟨?_, s3⟩
          rw [hD3, List.range_succ, List.filter_append]
          have : (List.filter (fun i => decide ((TL.tl y).getD (i + 1) 0 < (TL.tl y).getD i 0)) [j]) = [] := by rw [List.filter_cons, if_neg (by rw [g1, g2]; exact fun q => c1 (of_decide_eq_true q))]; rfl
          rw [this, List.append_nil]
      · rintro H3 ⟨hD3, s3⟩
        rw [hyl] at hD3
        have hD3 : H3 D = some (.lst (((fl (TL.tl y)).map fun (i : Nat) => (1 + (i : Int))).map V.int)) := hD3
        refine ⟨_, rfl, by show 0 ≤ sizeLine; decide, fun E0' hE => ⟨intsD ((fl (TL.tl y)).map fun (i : Nat) => (1 + (i : Int))), intsD [], .lst (SqL.of (same_new hE _ _ hD3)) (dpAll_ints _ _ _), .lst (xs := []) (SqL.of upd_same) .nil, shaped_intsD _, shaped_intsD _, _, rfl, ?_⟩⟩
        have s4 := s3.trans (same_new (o := .lst []) hE)
        rw [eqv_intsD]
        have em : muM .rising c0 (TL.tl y) = if fl (TL.tl y) = [] then [.inr (sg ((TL.tl y).getLastD c0))] else [.inr "lost"] := rfl
        rw [em] at k
        by_cases h1 : fl (TL.tl y) = []
        · rw [if_pos h1] at k
          have e1 : decide ((fl (TL.tl y)).map (fun (i : Nat) => (1 + (i : Int))) = []) = true := decide_eq_true (by rw [h1]; rfl)
          rw [e1]
          refine ite2 (fun c => absurd c (by decide)) (fun _ => ?_)
          have t1 : TL.tl (cutS z none (some ((1 : Nat) : Int))) = [c0] := by
            rw [cut_to (by rw [TL.len_tl, hz0, List.length_cons]; omega), hz0]; rfl
          have t2 : TL.tl (cutS z none (some ((1 : Nat) : Int)) ++ y) = [c0] ++ TL.tl y := by rw [TL.tl_append, t1]
          have l1 : (cutS z none (some ((1 : Nat) : Int))).length = 1 := by rw [TL.len_tl, t1]; rfl
          have l2 : (cutS z none (some ((1 : Nat) : Int)) ++ y).length = 1 + y.length := by rw [TL.len_tl, t2, List.length_append, ← TL.len_tl]; rfl
          refine ⟨_, rfl, 1, rfl, z, rfl, small13 (by omega), _, rfl, cutS z none (some ((1 : Nat) : Int)), y, rfl, rfl, (by rw [l1]; exact small13 (by omega)), _, rfl, cutS z none (some ((1 : Nat) : Int)) ++ y, -1, (TL.tl y).getLastD c0, rfl, rfl, (by rw [l2]; exact small13 (by omega)), ?_, k _ _ s4 rfl⟩
          show atI (TL.tl (cutS z none (some ((1 : Nat) : Int)) ++ y)) (-1) = _
          rw [t2]
          by_cases hy0 : TL.tl y = []
          · rw [hy0]; exact atI_last [] c0
          · have e := List.dropLast_concat_getLast hy0
            have := atI_last ([c0] ++ (TL.tl y).dropLast) ((TL.tl y).getLast hy0)
            rw [List.append_assoc, e] at this
            rw [getLastD_ne hy0]
            exact this
        · rw [if_neg h1] at k
          have e1 : decide ((fl (TL.tl y)).map (fun (i : Nat) => (1 + (i : Int))) = []) = false := decide_eq_false fun q => h1 (List.map_eq_nil_iff.mp q)
          rw [e1]
          refine ite2 (fun _ => ?_) (fun c => absurd rfl c)
          exact k _ _ s4 rfl
    | changes n =>
      refine ⟨_, rfl, sa, _, 0, .str "changes", rfl, rfl, hs, rfl, rfl, _, rfl, ite2 (fun c => absurd c (by decide +kernel)) (fun _ => ?_)⟩
      refine ⟨_, rfl, sa, _, 0, .str "changes", rfl, rfl, hs, rfl, rfl, _, rfl, ite2 (fun c => absurd c (by decide +kernel)) (fun _ => ?_)⟩
      refine ⟨_, rfl, _, _, rfl, ⟨hys, rfl⟩, 1, (y.length : Int), rfl, by omega, fun D hD => lc_range (lo := 1) (n := ((y.length : Int) - 1).toNat) (fun j H3 => H3 D = some (.lst ((((List.range j).filter fun i => !decide ((TL.tl y).getD (i + 1) 0 = (TL.tl y).getD i 0)).map fun (i : Nat) => (1 + (i : Int))).map V.int)) ∧ Same H H3) ⟨upd_same, same_new hD⟩ ?_ ?_⟩
      · rintro j H3 hj ⟨hD3, s3⟩
        have hj1 : j + 1 < (TL.tl y).length := by rw [← TL.len_tl]; omega
        have g1 : (TL.tl y).getD j 0 = (TL.tl y)[j] := by rw [List.getD_eq_getElem?_getD, List.getElem?_eq_getElem (by omega)]; rfl
        have g2 : (TL.tl y).getD (j + 1) 0 = (TL.tl y)[j + 1] := by rw [List.getD_eq_getElem?_getD, List.getElem?_eq_getElem hj1]; rfl
        have a1 : atI y.cps.toList (1 + (j : Int)) = some (TL.tl y)[j + 1] := by
          rw [show (1 + (j : Int)) = ((j + 1 : Nat) : Int) by omega]
          exact atI_nat (List.getElem?_eq_getElem hj1)
        have a2 : atI y.cps.toList (1 + (j : Int) - 1) = some (TL.tl y)[j] := by
          rw [show (1 + (j : Int) - 1) = ((j : Nat) : Int) by omega]
          exact atI_nat (List.getElem?_eq_getElem (show j < (TL.tl y).length by omega))
        refine ⟨rfl, _, rfl, _, rfl, y, _, _, rfl, rfl, hys, a1, _, rfl, _, rfl, _, _, rfl, rfl, y, _, _, rfl, rfl, hys, a2, rfl, _, rfl, ite2 (fun c1 => ?_) (fun c1 => ?_)⟩
        · have c1 : ¬ (TL.tl y)[j + 1] = (TL.tl y)[j] := fun q => by
            have c1 : (!decide (V.str (sg (TL.tl y)[j + 1]) = V.str (sg (TL.tl y)[j]))) = true := c1
            rw [q, decide_eq_true rfl] at c1
            cases c1
          refine ⟨_, rfl, _, hD3, ?_, ?_, s3.put hD⟩
          · rw [List.length_map, List.length_map]
            refine Nat.lt_of_le_of_lt (List.length_filter_le _ _) ?_
            rw [List.length_range]; exact small1000 (by omega)
          · rw [upd_same, List.range_succ, List.filter_append, List.map_append, List.map_append]
            have : (List.filter (fun i => !decide ((TL.tl y).getD (i + 1) 0 = (TL.tl y).getD i 0)) [j]) = [j] := by rw [List.filter_cons, if_pos (by rw [g1, g2, decide_eq_false c1]; rfl)]; rfl
            rw [this]
            rfl
        · have c1 : (TL.tl y)[j + 1] = (TL.tl y)[j] := Classical.byContradiction fun q => c1 (by show (!decide (V.str (sg _) = V.str (sg _))) = true; rw [decide_eq_false fun z => q (sg_inj (V.str.inj z))]; rfl)
          refine ⟨?_, s3⟩
          rw [hD3, List.range_succ, List.filter_append]
          have : (List.filter (fun i => !decide ((TL.tl y).getD (i + 1) 0 = (TL.tl y).getD i 0)) [j]) = [] := by rw [List.filter_cons, if_neg (by rw [g1, g2, decide_eq_true c1]; decide)]; rfl
          rw [this, List.append_nil]
      · rintro H3 ⟨hD3, s3⟩
        rw [hyl] at hD3
        have hD3 : H3 D = some (.lst (((chl (TL.tl y)).map fun (i : Nat) => (1 + (i : Int))).map V.int)) := hD3
        refine ⟨_, _, rfl, Or.inl ⟨_, SqL.of hD3, rfl⟩, ?_⟩
        have em : muM (.changes n) c0 (TL.tl y) = if n < (chl (TL.tl y)).length then [.inr "lost"] else [.inr (mkS ((TL.tl y).drop ((TL.tl y).length - 1))), .inl ((chl (TL.tl y)).length : Int)] := rfl
        rw [em] at k
        rw [show ((((chl (TL.tl y)).map fun (i : Nat) => (1 + (i : Int))).map V.int).length) = (chl (TL.tl y)).length by rw [List.length_map, List.length_map]]
        refine ⟨_, rfl, _, rfl, sa, _, 1, .int n, rfl, rfl, (Kl.same s3).seqT hs, rfl, _, _, rfl, rfl, _, rfl, ite2 (fun c1 => ?_) (fun c1 => ?_)⟩
        · have c1 : n < (chl (TL.tl y)).length := by
            have := of_decide_eq_true c1
            omega
          rw [if_pos c1] at k
          exact k _ _ s3 rfl
        · have c1 : ¬ n < (chl (TL.tl y)).length := fun q => c1 (decide_eq_true (by omega))
          rw [if_neg c1] at k
          have ec : cutS y (some (-1)) none = mkS ((TL.tl y).drop ((TL.tl y).length - 1)) := by
            refine TL.ext_tl ?_
            rw [cutS_tl, tl_mkS, HT.sIx_none]
            have e1 : HT.sIx y.length 0 (some (-1)) = (TL.tl y).length - 1 := by
              show (if (-1 : Int) < 0 then ((-1 : Int) + (y.length : Int)).toNat else min (-1 : Int).toNat y.length) = _
              rw [if_pos (by decide), ← TL.len_tl]
              omega
            rw [e1]
            exact List.take_of_length_le (by rw [List.length_drop, TL.len_tl]; omega)
          refine ⟨_, rfl, 1, rfl, _, rfl, y, rfl, hys, _, rfl, by show 2 ≤ sizeLine; decide, fun t ht => k _ _ (s3.trans (same_new ht)) ?_⟩
          rw [← ec]
          exact ⟨t, rfl, upd_same⟩
end
end Vf
set_option Elab.async false
set_option linter.all false
set_option maxRecDepth 100000
set_option maxHeartbeats 4000000
namespace Vf
open PySem L2 PyProof.Rows
open NdefX LamX
theorem op_neDK {X : Cx} {K : PySem.W.Frag} (hK : X.K = K) (hu : X.A.units + 64 < cLine) : OpR X (compareOp .NotEq) (rNeD K) := by subst hK; exact op_neD hu
theorem lay_datM {k : List Key} (h : okM k) : PyData.canLay0 (datM k) = true := by
  rcases mat_cases k with ⟨s, rfl⟩ | ⟨_, e⟩
  · exact lay_kD (x := .inr s) (h _ List.mem_cons_self)
  · rw [e]
    show PyData.canLay0 (.tuple (k.map kD)) = true
    simp only [PyData.canLay0]
    exact lay_kDs h
theorem dep_datM (k : List Key) : PyData.depth (datM k) ≤ 1 := by
  rcases mat_cases k with ⟨s, rfl⟩ | ⟨_, e⟩
  · exact Nat.le_trans (dep_kD (.inr s)) (by decide)
  · rw [e]; exact dep_memD k
theorem layAll_datM : ∀ {ks : List (List Key)}, (∀ k ∈ ks, okM k) → PyData.canLayAll0 (ks.map datM) = true
  | [], _ => by simp [PyData.canLayAll0]
  | x :: r, h => by
    simp only [List.map_cons, PyData.canLayAll0, Bool.and_eq_true]
    exact ⟨lay_datM (h x List.mem_cons_self), layAll_datM fun y hy => h y (List.mem_cons_of_mem _ hy)⟩
theorem shaped_datM {k : List Key} (h : okM k) : SeqAt.shaped (datM k) = true := shaped_of (n := 1) (lay_datM h) (dep_datM k) (by decide)
theorem shaped_datMs {ks : List (List Key)} (h : ∀ k ∈ ks, okM k) : SeqAt.shaped (.list (ks.map datM)) = true := shaped_of (n := 2) (by
    simp only [PyData.canLay0]
    exact layAll_datM h) (by rw [PyData.depth]; have := depth_all dep_datM ks; omega) (by decide)
theorem any_datM (ks : List (List Key)) (k : List Key) : ((ks.map datM).any fun z => PyData.eqv z (datM k)) = true ↔ k ∈ ks := by
  simp only [List.any_map, List.any_eq_true, Function.comp_apply, eqv_datM, decide_eq_true_eq]
  exact ⟨fun ⟨x, hx, e⟩ => by rw [← e]; exact hx, fun h => ⟨k, h, rfl⟩⟩
theorem dps_datM {K : PySem.W.Frag} {H : Hp} : ∀ {vs : List V} {ks : List (List Key)}, Forall2 (MAt H) vs ks → DpAll K H vs (ks.map datM)
  | [], [], _ => .nil
  | [], _ :: _, h => by have := h.1; cases this
  | _ :: _, [], h => by have := h.1; cases this
  | v :: vs, k :: ks, h => .cons (MAt.dp (h.2 0 v k rfl rfl)) (dps_datM ⟨by have := h.1; simpa using this, fun i x y e1 e2 => h.2 (i + 1) x y e1 e2⟩)
theorem strOk_mkS {l : List Nat} (h : ∀ c ∈ l, c < 200) : PyData.strOk (mkS l) = true := by
  unfold PyData.strOk mkS
  simp only [List.all_toArray, List.all_eq_true, decide_eq_true_eq]
  intro c hc
  have := h c hc
  omega
theorem okM_mu {s : LSort} {c0 : Nat} {y : List Nat} (hc0 : c0 < 200) (hy : ∀ c ∈ y, c < 200) : okM (muM s c0 y) := by
  have one : ∀ x : Str, PyData.strOk x = true → okM [.inr x] := fun x hx k hk => by
    obtain rfl : k = .inr x := List.mem_singleton.mp hk
    exact hx
  cases s with
  | every => exact one _ (by decide +kernel)
  | rising =>
    show okM (if fl y = [] then [.inr (sg (y.getLastD c0))] else [.inr "lost"])
    split
    · refine one _ (strOk_mkS (l := [y.getLastD c0]) fun c hc => ?_)
      obtain rfl : c = y.getLastD c0 := List.mem_singleton.mp hc
      by_cases h : y = []
      · subst h; exact hc0
      · rw [getLastD_ne h]; exact hy _ (List.getLast_mem h)
    · exact one _ (by decide +kernel)
  | changes n =>
    show okM (if n < (chl y).length then [.inr "lost"] else [.inr (mkS (y.drop (y.length - 1))), .inl ((chl y).length : Int)])
    split
    · exact one _ (by decide +kernel)
    · intro k hk
      rcases List.mem_cons.mp hk with rfl | hk
      · exact strOk_mkS fun c hc => hy c (List.mem_of_mem_drop hc)
      · obtain rfl : k = .inl ((chl y).length : Int) := List.mem_singleton.mp hk
        trivial
theorem num_le {κ : Type} [DecidableEq κ] {ks : List κ} {i : Nat} {k : κ} (h : ks[i]? = some k) : num ks k ≤ i := by
  induction ks generalizing i with
  | nil => cases h
  | cons a r ih =>
    unfold num at ih ⊢
    rw [List.idxOf_cons]
    cases i with
    | zero =>
      obtain rfl : a = k := Option.some.inj h
      simp
    | succ i =>
      have := ih (i := i) h
      by_cases e : a = k
      · subst e; simp
      · simp only [beq_eq_false_iff_ne.mpr e, cond_false]
        omega
theorem ok_lost : okM lostK := fun x hx => by
  obtain rfl : x = .inr "lost" := List.mem_singleton.mp hx
  show PyData.strOk "lost" = true
  decide +kernel
structure OM (μ : List Nat → List Key) (L : List Nat) (H : Hp) (F C R : Addr) (H1 : Hp) (ks : List (List Key)) (as : List V) (ys : List (List Nat)) (rows : List (List Nat)) (rs : List Addr) : Prop where
  fnd : H1 F = some (.lst as)
  col : H1 C = some (.lst (ys.map fun l => V.str (mkS l)))
  rws : H1 R = some (.lst (rs.map V.ref))
  at_ : Forall2 (MAt H1) as ks
  mem : ys.map μ = ks
  len : ∀ (i : Nat) (y : List Nat), ys[i]? = some y → y.length ≤ i ∧ ∀ c ∈ y, c ∈ L
  row : Forall2 (fun (r : Addr) (row : List Nat) => H1 r = some (.lst (row.map fun (n : Nat) => V.int (n : Int)))) rs rows
  ne : ∀ r ∈ rs, r ≠ F ∧ r ≠ C ∧ r ≠ R
  same : Same H H1
theorem OM.sm {μ : List Nat → List Key} {L : List Nat} {H H1 H2 : Hp} {F C R : Addr} {ks : List (List Key)} {as : List V} {ys rows : List (List Nat)} {rs : List Addr} (W : OM μ L H F C R H1 ks as ys rows rs) (s : Same H1 H2) : OM μ L H F C R H2 ks as ys rows rs :=
  ⟨s _ _ W.fnd, s _ _ W.col, s _ _ W.rws, W.at_.imp fun x y _ h => h.keep fun b xs e => s _ _ e, W.mem, W.len, W.row.imp fun x y _ h => s _ _ h, W.ne, W.same.trans s⟩
theorem OM.add {μ : List Nat → List Key} {L : List Nat} {H H1 : Hp} {F C R : Addr} {ks : List (List Key)} {as : List V} {ys rows : List (List Nat)} {rs : List Addr} (W : OM μ L H F C R H1 ks as ys rows rs) (n : C ≠ F) (nR : R ≠ F ∧ R ≠ C) (hF : H F = none) (hC : H C = none) {a : V} {y : List Nat} (ha : MAt H1 a (μ y)) (hy : y.length ≤ ys.length) (hyL : ∀ c ∈ y, c ∈ L) :
    OM μ L H F C R (L2.upd (L2.upd H1 F (.lst (as ++ [a]))) C (.lst ((ys.map fun l => V.str (mkS l)) ++ [.str (mkS y)]))) (ks ++ [μ y]) (as ++ [a]) (ys ++ [y]) rows rs := by
  have t1 : ∀ b xs, H1 b = some (.tup xs) → L2.upd (L2.upd H1 F (.lst (as ++ [a]))) C (.lst ((ys.map fun l => V.str (mkS l)) ++ [.str (mkS y)])) b = some (.tup xs) := fun b xs e => by
    rw [upd_ne (L2.ne_of e W.col (fun z => nomatch z)), upd_ne (L2.ne_of e W.fnd (fun z => nomatch z))]
    exact e
  refine ⟨by rw [upd_ne n.symm, upd_same], by rw [upd_same, List.map_append]; rfl, by rw [upd_ne nR.2, upd_ne nR.1]; exact W.rws, (W.at_.imp fun x y _ h => h.keep t1).snoc (ha.keep t1), by rw [List.map_append, W.mem]; rfl, fun i x hx => ?_, ⟨W.row.1, fun i x y e1 e2 => ?_⟩, W.ne, (W.same.put hF).put hC⟩
  · by_cases hi : i < ys.length
    · rw [List.getElem?_append_left hi] at hx
      exact W.len i x hx
    · have h1 := (List.getElem?_eq_some_iff.mp hx).1
      rw [List.length_append, List.length_singleton] at h1
      have : i = ys.length := by omega
      subst this
      rw [List.getElem?_append_right (Nat.le_refl _), Nat.sub_self] at hx
      obtain rfl : y = x := Option.some.inj hx
      exact ⟨hy, hyL⟩
  · obtain ⟨n1, n2, n3⟩ := W.ne x (List.mem_of_getElem? e1)
    rw [upd_ne n2, upd_ne n1]
    exact W.row.2 i x y e1 e2
theorem OM.putr {μ : List Nat → List Key} {L : List Nat} {H H1 : Hp} {F C R : Addr} {ks : List (List Key)} {as : List V} {ys rows : List (List Nat)} {rs : List Addr} (W : OM μ L H F C R H1 ks as ys rows rs) {r : Addr} {qs qs' : List V} (hr : H1 r = some (.lst qs)) (n1 : r ≠ F) (n2 : r ≠ C) (n3 : r ≠ R) (hf : ∀ q ∈ rs, q ≠ r) (h0 : H r = none) : OM μ L H F C R (L2.upd H1 r (.lst qs')) ks as ys rows rs := by
  refine ⟨by rw [upd_ne n1.symm]; exact W.fnd, by rw [upd_ne n2.symm]; exact W.col, by rw [upd_ne n3.symm]; exact W.rws, W.at_.imp fun x y _ h => h.keep fun b xs e => ?_, W.mem, W.len, ⟨W.row.1, fun i x y e1 e2 => ?_⟩, W.ne, W.same.put h0⟩
  · rw [upd_ne (L2.ne_of e hr (fun z => nomatch z))]
    exact e
  · show (L2.upd H1 r _) x = _
    rw [upd_ne (hf x (List.mem_of_getElem? e1))]
    exact W.row.2 i x y e1 e2
theorem OM.addr {μ : List Nat → List Key} {L : List Nat} {H H1 : Hp} {F C R : Addr} {ks : List (List Key)} {as : List V} {ys rows : List (List Nat)} {rs : List Addr} (W : OM μ L H F C R H1 ks as ys rows rs) (nR : R ≠ F ∧ R ≠ C) (hR : H R = none) {r : Addr} {row : List Nat} (hr : H1 r = some (.lst (row.map fun (n : Nat) => V.int (n : Int)))) (n1 : r ≠ F) (n2 : r ≠ C) (n3 : r ≠ R) : OM μ L H F C R (L2.upd H1 R (.lst (rs.map V.ref ++ [.ref r]))) ks as ys (rows ++ [row]) (rs ++ [r]) := by
  refine ⟨by rw [upd_ne nR.1.symm]; exact W.fnd, by rw [upd_ne nR.2.symm]; exact W.col, by rw [upd_same, List.map_append]; rfl, W.at_.imp fun x y _ h => h.keep fun b xs e => ?_, W.mem, W.len, ?_, fun q hq => ?_, W.same.put hR⟩
  · rw [upd_ne (L2.ne_of e W.rws (fun z => nomatch z))]
    exact e
  · have h1 : Forall2 (fun (q : Addr) (row : List Nat) => (L2.upd H1 R (.lst (rs.map V.ref ++ [.ref r]))) q = some (.lst (row.map fun (n : Nat) => V.int (n : Int)))) rs rows := ⟨W.row.1, fun i x y e1 e2 => by
      show (L2.upd H1 R _) x = _
      rw [upd_ne (W.ne x (List.mem_of_getElem? e1)).2.2]
      exact W.row.2 i x y e1 e2⟩
    exact h1.snoc (by rw [upd_ne n3]; exact hr)
  · rcases List.mem_append.mp hq with h | h
    · exact W.ne q h
    · rw [List.mem_singleton.mp h]; exact ⟨n1, n2, n3⟩
/-- the law's machine as data -/
def MachAt (H : Hp) (t : Addr) (z : Str) (rows : List (List Nat)) (good : List Int) : Prop := ∃ (R G : Addr) (rs : List Addr), H t = some (.tup [.str z, .ref R, .ref G]) ∧ H R = some (.lst (rs.map V.ref)) ∧ Forall2 (fun (r : Addr) (row : List Nat) => H r = some (.lst (row.map fun (n : Nat) => V.int (n : Int)))) rs rows ∧ H G = some (.lst (good.map V.int))
structure TxtMa (K : PySem.W.Frag) (mg : Str → Option Value) (fMe : Addr) : Prop extends TxtMe mg where
  m_law_memory : mg "_law_memory" = some (.ref fMe)
  k_law_memory : PySem.W.keepIn K (.ref fMe) = true
def spMach (K : PySem.W.Frag) : Sp := fun vs H Q _ => ∃ (v : V) (s : LSort) (z : Str) (c0 : Nat) (r : List Nat), vs = [.str z, v] ∧ SortAt K H v s ∧ TL.tl z = c0 :: r ∧ z.length ≤ 3 ∧ (∀ d ∈ TL.tl z, c0 ≤ d) ∧ (∀ d ∈ TL.tl z, d < 200) ∧ (mach 40 s (TL.tl z) c0).1.length ≤ 40 ∧
  ∀ t H', Same H H' → MachAt H' t z (mach 40 s (TL.tl z) c0).2 (goodFrom keepL 0 (mach 40 s (TL.tl z) c0).1) → Q (.ref t) H'
section
variable {P : Program} {w : World} {K : PySem.W.Frag} {mg : Str → Option Value} {base : Heap}
abbrev s__law_machine : Stmt := top 33
abbrev N__law_machine : List Str := ["_law_letters_here", "_law_sort_here", "_law_firsts", "_law_marks", "_law_rows", "_law_turn", "_law_row", "_law_letter", "_law_mark", "_law_k"]
abbrev P__law_machine : List Str := ["_law_letters_here", "_law_sort_here"]
theorem sc__law_machine : FnScope N__law_machine P__law_machine (defScope s__law_machine) := ⟨rfl, rfl, rfl, by decide +kernel, rfl, by decide +kernel, by decide +kernel⟩

theorem ok_mach {f fMe : Addr} {fd fdMe : FuncData} (F : Fun K "_law_machine" "_law_machine" s__law_machine f fd) (T : TxtMa K mg fMe) (FMe : Fun K "_law_memory" "_law_memory" s__law_memory fMe fdMe) (b_law_memory : Binds K fdMe P__law_memory []) : FnOk P w K mg base CX0 2 f fd P__law_machine (spMach K) := by
  have G_law_memory : FnOk P w K mg base CX0 1 fMe fdMe P__law_memory (spMemL K) := ok_memL FMe T.toTxtMe
  refine F.ok sc__law_machine (fun vs H Q E h => ?_) (fun cdv A outer s H vs Q E hr h => ?_)
  · obtain ⟨v, so, z, c0, r, rfl, _⟩ := h
    rfl
  · obtain ⟨v, so, z, c0, r, rfl, hso, hz0, hz, h0, h200, h40, k⟩ := h
    have hu := hu_of hr
    refine ⟨_, (pss_cons (ps_asg (pe_tup (pa_cons (pe_lst (pa_cons pe_str pa_nil)) (pa_cons (pe_lst (pa_cons (pe_call G_law_memory (hr.mono (by decide)) (by rfl) T.m_law_memory T.k_law_memory b_law_memory .nil pass0 (pa_cons (pv 1) (pa_cons (pv 0) (pa_cons pe_str pa_nil)))) pa_nil)) (pa_cons (pe_lst pa_nil) pa_nil)))) (pg_tup (by rfl) (pgs_cons (pg_name (i := 2) sc__law_machine.nd rfl (Or.inl rfl)) (pgs_cons (pg_name (i := 3) sc__law_machine.nd rfl (Or.inr rfl)) (pgs_cons (pg_name (i := 4) sc__law_machine.nd rfl (Or.inl rfl)) pgs_nil)))))
      (pss_cons (ps_for PassesOwn.never rfl (pi_range1 (by rfl) T.range (pa_cons pe_int pa_nil)) (pg_name (i := 5) sc__law_machine.nd rfl (Or.inl rfl)) (pss_cons (ps_if (pt_cmpR op_ge (pv 5) (pe_callB call_len (by rfl) T.len PySem.boot_len (pa_cons (pv 2) pa_nil)) (nomark _)) (pss_one (ps_ret (pe_tup (pa_cons (pv 0) (pa_cons (pv 4) (pa_cons (pe_lc (own := [("_law_k", 9)]) (g := gName 9) (by rfl) sc__law_machine.nd (pi_range1 (by rfl) T.range (pa_cons (pe_callB call_len (by rfl) T.len PySem.boot_len (pa_cons (pv 3) pa_nil)) pa_nil)) (blkOk_by (own := [("_law_k", 9)]) (N := N__law_machine) (sc := defScope s__law_machine) (by decide +kernel)) (fun _ _ _ _ _ => pg_name (i := 9) sc__law_machine.nd rfl (Or.inl rfl)) (fun _ _ _ _ _ => (pts_one (pt_cmpR (op_neDK (K := K) rfl hr.units) (pe_ix (ix_listK (K := K) rfl) (pv 3) (pv 9) (fun _ _ => rfl)) pe_str (nomark _)))) (fun _ _ _ _ _ => (pv 9))) pa_nil)))))) pss_nil)
      (pss_cons (ps_set (i := 6) sc__law_machine.nd rfl (Or.inl rfl) (pe_lst pa_nil))
      (pss_cons (ps_for PassesOwn.never rfl (pi_str (pv 0)) (pg_name (i := 7) sc__law_machine.nd rfl (Or.inl rfl)) (pss_cons (ps_set (i := 8) sc__law_machine.nd rfl (Or.inl rfl) (pe_call G_law_memory (hr.mono (by decide)) (by rfl) T.m_law_memory T.k_law_memory b_law_memory .nil pass0 (pa_cons (pv 1) (pa_cons (pv 0) (pa_cons (pe_op op_add_str (pe_ix ix_list (pv 2) (pv 5) (fun _ _ => rfl)) (pv 7)) pa_nil)))))
      (pss_cons (ps_if (pt_cmpR (op_notInD (hu65 hr)) (pv 8) (pv 3) (by rfl)) (pss_cons (ps_expr (pe_bm PySem.F.plainAttrs_list PySem.F.slot_list_append PySem.F.type_list_append mt_append (pv 3) (pa_cons (pv 8) pa_nil)))
      (pss_one (ps_expr (pe_bm PySem.F.plainAttrs_list PySem.F.slot_list_append PySem.F.type_list_append mt_append (pv 2) (pa_cons (pe_op op_add_str (pe_ix ix_list (pv 2) (pv 5) (fun _ _ => rfl)) (pv 7)) pa_nil))))) pss_nil)
      (pss_one (ps_expr (pe_bm PySem.F.plainAttrs_list PySem.F.slot_list_append PySem.F.type_list_append mt_append (pv 6) (pa_cons (pe_bm PySem.F.plainAttrs_list PySem.F.slot_list_index PySem.F.type_list_index (mt_indexD (hu65 hr)) (pv 3) (pa_cons (pv 8) pa_nil)) pa_nil)))))))
      (pss_one (ps_expr (pe_bm PySem.F.plainAttrs_list PySem.F.slot_list_append PySem.F.type_list_append mt_append (pv 4) (pa_cons (pv 6) pa_nil))))))))
      (pss_one (ps_ret pe_non)))), ?_⟩
    have hLz : (TL.tl z).length ≤ 3 := by rw [← TL.len_tl]; exact hz
    have e0 : TL.tl (Str.ofString "") = [] := rfl
    have hz26 : z.length ≤ 26 := by omega
    have hc0 : c0 < 200 := h200 c0 (by rw [hz0]; exact List.mem_cons_self)
    have hμ : ∀ y c, c ∈ TL.tl z → muM so c0 (y ++ [c]) = lstM so (muM so c0 y) c := fun y c hc => muM_snoc so h0 y c hc
    have hok : ∀ y, (∀ x ∈ y, x ∈ TL.tl z) → okM (muM so c0 y) := fun y hy => okM_mu hc0 fun c hc => h200 c (hy c hc)
    refine ⟨by show 1 ≤ sizeLine; decide, fun C hC => ⟨_, rfl, _, rfl, v, so, z, Str.ofString "", c0, r, rfl, hso.same (same_new hC), hz0, hz26, by decide, fun v0 HA sA hat0 => ?_⟩⟩
    rw [e0] at hat0
    have hC1 : (L2.upd H C (.lst [.str (Str.ofString "")])) C = some (.lst [.str (Str.ofString "")]) := upd_same
    have hCA := sA _ _ hC1
    have sHA : Same H HA := (same_new hC).trans sA
    refine ⟨by show 1 ≤ sizeLine; decide, fun M hM => ⟨by show 0 ≤ sizeLine; decide, fun R hR => ⟨by show 3 ≤ sizeLine; decide, fun tt htt => ?_⟩⟩⟩
    have nCM : C ≠ M := ne_of_none hCA hM
    have hM0 : H M = none := sHA.free hM
    have hR0 : H R = none := sHA.free ((same_new hM).free hR)
    have nRM : R ≠ M := fun q => by rw [q, upd_same] at hR; cases hR
    have nRC : R ≠ C := fun q => by rw [q, upd_ne nCM, hCA] at hR; cases hR
    have W0 : OM (muM so c0) (TL.tl z) H M C R (L2.upd (L2.upd (L2.upd HA M (.lst [v0])) R (.lst [])) tt (.tup [.ref C, .ref M, .ref R])) [muM so c0 []] [v0] [[]] [] [] := by
      have s3 : Same HA (L2.upd (L2.upd (L2.upd HA M (.lst [v0])) R (.lst [])) tt (.tup [.ref C, .ref M, .ref R])) := ((same_new hM).trans (same_new hR)).trans (same_new htt)
      refine ⟨same_new htt _ _ (same_new hR _ _ upd_same), s3 _ _ hCA, same_new htt _ _ upd_same, ⟨rfl, fun i x y e1 e2 => ?_⟩, rfl, fun i y e => ?_, ⟨rfl, fun i x y e1 e2 => nomatch e1⟩, (fun r hr => nomatch hr), sHA.trans s3⟩
      · cases i with
        | zero =>
          cases e1; cases e2
          exact hat0.keep fun b xs e => s3 _ _ e
        | succ i => cases e1
      · cases i with
        | zero => cases e; exact ⟨Nat.le_refl _, fun c hc => nomatch hc⟩
        | succ i => cases e
    have htt0 : (L2.upd (L2.upd (L2.upd HA M (.lst [v0])) R (.lst [])) tt (.tup [.ref C, .ref M, .ref R])) tt = some (.tup [.ref C, .ref M, .ref R]) := upd_same
    generalize L2.upd (L2.upd (L2.upd HA M (.lst [v0])) R (.lst [])) tt (.tup [.ref C, .ref M, .ref R]) = H0 at W0 htt0 ⊢
    clear hat0 hCA hM hR htt
    refine ⟨tt, _, rfl, SqT.of htt0, rfl, _, _, rfl, _, _, rfl, _, _, rfl, rfl, ?_⟩
    refine ⟨60, rfl, by decide, by decide, for_range (n := 60) (fun n σ H1 => ∃ (as : List V) (ys : List (List Nat)) (rs : List Addr) (v5 v6 v7 v8 v9 : Option V), σ = [some (.str z), some v, some (.ref C), some (.ref M), some (.ref R), v5, v6, v7, v8, v9] ∧
      OM (muM so c0) (TL.tl z) H M C R H1 (turns (lstM so) (TL.tl z) (muM so c0 []) n).1 as ys (turns (lstM so) (TL.tl z) (muM so c0 []) n).2 rs ∧ (∀ i < n, (turns (lstM so) (TL.tl z) (muM so c0 []) i).2.length < (turns (lstM so) (TL.tl z) (muM so c0 []) i).1.length) ∧ n ≤ 40)
      ⟨[v0], [[]], [], none, none, none, none, none, rfl, W0, fun i hi => absurd hi (Nat.not_lt_zero _), by decide⟩ ?_ ?_⟩
    · rintro n σ H1 hn60 ⟨as, ys, rs, v5, v6, v7, v8, v9, rfl, W, hlt, hn40⟩
      have hn := turns_rows (lstM so) (TL.tl z) (muM so c0 []) hlt
      have lk : (turns (lstM so) (TL.tl z) (muM so c0 []) n).1.length ≤ 40 := Nat.le_trans (turns_len (lstM so) (TL.tl z) (muM so c0 []) hn40) h40
      generalize ep : turns (lstM so) (TL.tl z) (muM so c0 []) n = p at *
      obtain ⟨ks, rows⟩ := p
      dsimp only at *
      have ly : ys.length = ks.length := by rw [← W.mem, List.length_map]
      have la : as.length = ks.length := W.at_.1
      have lr : rs.length = rows.length := W.row.1
      refine ⟨_, rfl, _, rfl, _, _, rfl, Or.inl ⟨_, SqL.of W.col, rfl⟩, _, _, rfl, rfl, _, rfl, ite2 (fun c0' => ?_) (fun c0' => ?_)⟩
      · have c1 : ks.length ≤ n := by
          have := of_decide_eq_true c0'
          rw [List.length_map, ly] at this
          omega
        have e40 : mach 40 so (TL.tl z) c0 = (ks, rows) := by
          show turns (lstM so) (TL.tl z) (muM so c0 []) 40 = (ks, rows)
          rw [turns_stay (lstM so) (TL.tl z) (muM so c0 []) (i := n) (by rw [ep]; dsimp only; omega) 40 hn40, ep]
        rw [e40] at k
        dsimp only at k
        have hokq : ∀ kk ∈ ks, okM kk := fun kk hk => by
          rw [← W.mem] at hk
          obtain ⟨y, hy, rfl⟩ := List.mem_map.mp hk
          obtain ⟨i, hi, e⟩ := List.getElem_of_mem hy
          exact hok _ (W.len i y (by rw [List.getElem?_eq_getElem hi, e])).2
        refine ⟨_, rfl, _, rfl, _, rfl, _, as.length, rfl, Or.inl ⟨_, SqL.of W.fnd, rfl⟩, (as.length : Int), rfl, by omega, by omega, fun D hD => lc_range (lo := 0) (n := as.length) (fun j H2 => H2 D = some (.lst ((goodFrom keepL 0 (ks.take j)).map V.int)) ∧ Same H1 H2) ⟨upd_same, same_new hD⟩ ?_ ?_⟩
        · rintro j H2 hj ⟨hD2, s2⟩
          have hj' : j < ks.length := by omega
          have hkj : ks[j]? = some ks[j] := List.getElem?_eq_getElem hj'
          obtain ⟨a, ha⟩ : ∃ a, as[j]? = some a := ⟨_, List.getElem?_eq_getElem (by omega)⟩
          have W2 := W.sm s2
          have hat := W2.at_.2 j a _ ha hkj
          refine ⟨rfl, ?_⟩
          have hsn : ks.take (j + 1) = ks.take j ++ [ks[j]] := take_more hj'
          have hlt' : (ks.take j).length = j := by rw [List.length_take]; omega
          have hg := goodFrom_snoc keepL ks[j] (ks.take j) 0
          rw [hlt', Nat.zero_add] at hg
          have hgl := goodFrom_len keepL (ks.take j) 0
          refine ⟨_, rfl, _, rfl, M, as, (0 : Int) + j, a, rfl, rfl, SqL.of W2.fnd, at_of' (show (0 : Int) + (j : Nat) = ((j : Nat) : Int) by omega) ha, datM ks[j], datM lostK, hat.dp, .str _, shaped_datM (hokq _ (List.getElem_mem hj')), shaped_datM ok_lost, _, rfl, ?_⟩
          rw [eqv_datM]
          refine ite2 (fun c => ?_) (fun c => ?_)
          · have c : keepL ks[j] = true := c
            refine ⟨_, rfl, _, hD2, ?_, ?_, s2.put hD⟩
            · rw [List.length_map]; exact small1000 (by omega)
            · rw [upd_same, hsn, hg, if_pos c, List.map_append, Int.zero_add]
              rfl
          · have c : ¬ keepL ks[j] = true := c
            refine ⟨?_, s2⟩
            rw [hD2, hsn, hg, if_neg c, List.append_nil]
        · rintro H2 ⟨hD2, s2⟩
          rw [List.take_of_length_le (by omega)] at hD2
          have W2 := W.sm s2
          refine ⟨by show 3 ≤ sizeLine; decide, fun t ht => k t _ (W2.same.trans (same_new ht)) ⟨R, D, rs, upd_same, same_new ht _ _ W2.rws, W2.row.imp fun x y _ h => same_new ht _ _ h, same_new ht _ _ hD2⟩⟩
      · have c1 : n < ks.length := Classical.byContradiction fun q => c0' (decide_eq_true (by rw [List.length_map, ly]; omega))
        have n40 : n + 1 ≤ 40 := by omega
        obtain ⟨yy, hyy⟩ : ∃ yy, ys[n]? = some yy := ⟨_, List.getElem?_eq_getElem (by omega)⟩
        obtain ⟨mm, hmm⟩ : ∃ mm, ks[n]? = some mm := ⟨_, List.getElem?_eq_getElem (by omega)⟩
        have emm : muM so c0 yy = mm := by
          rw [← W.mem, List.getElem?_map, hyy] at hmm
          exact Option.some.inj hmm
        obtain ⟨hyn, hyL⟩ := W.len n yy hyy
        refine ⟨by show 0 ≤ sizeLine; decide, fun rr hrr => ?_⟩
        have nrM : rr ≠ M := (ne_of_none W.fnd hrr).symm
        have nrC : rr ≠ C := (ne_of_none W.col hrr).symm
        have nrR : rr ≠ R := (ne_of_none W.rws hrr).symm
        have hr0 : H rr = none := W.same.free hrr
        have hfr : ∀ q ∈ rs, q ≠ rr := fun q hq e => by
          subst e
          obtain ⟨i, hi, he⟩ := List.getElem_of_mem hq
          have := W.row.2 i q _ (List.getElem?_eq_some_iff.mpr ⟨hi, he⟩) (List.getElem?_eq_getElem (by omega))
          have this : H1 q = _ := this
          rw [hrr] at this; cases this
        refine ⟨_, rfl, z, rfl, for_it walk_strS (fun j σ H3 => ∃ (as' : List V) (ys' : List (List Nat)) (v7 v8 : Option V), σ = [some (.str z), some v, some (.ref C), some (.ref M), some (.ref R), some (.int (0 + (n : Int))), some (.ref rr), v7, v8, v9] ∧
          ys <+: ys' ∧ OM (muM so c0) (TL.tl z) H M C R H3 (rowOf (lstM so) mm ((TL.tl z).take j) (ks, [])).1 as' ys' rows rs ∧ H3 rr = some (.lst ((rowOf (lstM so) mm ((TL.tl z).take j) (ks, [])).2.map fun (n : Nat) => V.int (n : Int))))
          ⟨as, ys, v7, v8, rfl, List.prefix_refl _, W.sm (same_new hrr), upd_same⟩ (fun _ _ _ _ _ => trivial) ?_ ?_⟩
        · rintro j x σ H3' H3 hj ⟨as', ys', v7, v8, rfl, hpy, W3, hr3⟩ ⟨rfl, cc, hcc, rfl⟩
          have hstep : rowOf (lstM so) mm ((TL.tl z).take (j + 1)) (ks, []) = (add1 (rowOf (lstM so) mm ((TL.tl z).take j) (ks, [])).1 (lstM so mm cc), (rowOf (lstM so) mm ((TL.tl z).take j) (ks, [])).2 ++ [num (add1 (rowOf (lstM so) mm ((TL.tl z).take j) (ks, [])).1 (lstM so mm cc)) (lstM so mm cc)]) := by
            rw [List.take_add_one, hcc]
            exact rowOf_append (lstM so) mm _ [cc] (ks, [])
          have hlen3 := rowOf_len (lstM so) mm ((TL.tl z).take j) (ks, [])
          have hlenr := rowOf_row (lstM so) mm ((TL.tl z).take j) (ks, [])
          have hjz : ((TL.tl z).take j).length ≤ 3 := by rw [List.length_take]; omega
          have hccm : cc ∈ TL.tl z := List.mem_of_getElem? hcc
          rw [hstep]
          generalize rowOf (lstM so) mm ((TL.tl z).take j) (ks, []) = q at W3 hr3 hstep hlen3 hlenr ⊢
          obtain ⟨qk, qr⟩ := q
          dsimp only at W3 hr3 hlen3 hlenr ⊢
          rw [List.length_nil, Nat.zero_add] at hlenr
          have ly3 : ys'.length = qk.length := by rw [← W3.mem, List.length_map]
          have la3 : as'.length = qk.length := W3.at_.1
          have hyy' : ys'[n]? = some yy := by
            obtain ⟨t, ht⟩ := hpy
            rw [← ht, List.getElem?_append_left (by omega)]
            exact hyy
          have hyc : ∀ c ∈ yy ++ [cc], c ∈ TL.tl z := fun c hc => by
            rcases List.mem_append.mp hc with q | q
            · exact hyL c q
            · rw [List.mem_singleton.mp q]; exact hccm
          have etl : TL.tl (mkS yy ++ sg cc) = yy ++ [cc] := by rw [mkS_snoc, tl_mkS]
          have hyl : (mkS yy ++ sg cc).length ≤ 200 := by
            rw [mkS_snoc, mkS_len, List.length_append, List.length_singleton]; omega
          have hsz : (mkS yy).length + (sg cc).length ≤ sizeLine := by
            rw [mkS_len]
            exact small13 (by show yy.length + 1 ≤ _; omega)
          have hat' : atI (ys'.map fun l => V.str (mkS l)) ((0 : Int) + (n : Int)) = some (.str (mkS yy)) := at_of' (show (0 : Int) + (n : Nat) = ((n : Nat) : Int) by omega) (by rw [List.getElem?_map, hyy']; rfl)
          refine ⟨_, rfl, _, rfl, _, rfl, _, rfl, C, ys'.map fun l => V.str (mkS l), (0 : Int) + n, .str (mkS yy), rfl, rfl, SqL.of W3.col, hat', _, rfl, mkS yy, sg cc, rfl, rfl, hsz, v, so, z, mkS yy ++ sg cc, c0, r, rfl, hso.same W3.same, hz0, hz26, hyl, fun v' H4 s4 hat => ?_⟩
          rw [etl] at hat
          have ekey : muM so c0 (yy ++ [cc]) = lstM so mm cc := by rw [hμ yy cc hccm, emm]
          rw [← ekey]
          have W4 := W3.sm s4
          have hr4 := s4 _ _ hr3
          have hokm : okM (muM so c0 (yy ++ [cc])) := hok _ hyc
          have hokq : ∀ k ∈ qk, okM k := fun k hk => by
            rw [← W3.mem] at hk
            obtain ⟨y, hy, rfl⟩ := List.mem_map.mp hk
            obtain ⟨i, hi, e⟩ := List.getElem_of_mem hy
            exact hok _ (W3.len i y (by rw [List.getElem?_eq_getElem hi, e])).2
          have first : ∀ (Z : List (List Key)) (m' : Nat) (z' : PyData), m' < num Z (muM so c0 (yy ++ [cc])) → (Z.map datM)[m']? = some z' → PyData.eqv z' (datM (muM so c0 (yy ++ [cc]))) = false := fun Z m' z' hm' hz' => by
            rw [List.getElem?_map] at hz'
            obtain ⟨k', hk', rfl⟩ := Option.map_eq_some_iff.mp hz'
            rw [eqv_datM]
            refine decide_eq_false fun e => ?_
            subst e
            have := num_le hk'
            omega
          refine ⟨_, rfl, _, rfl, datM (muM so c0 (yy ++ [cc])), qk.map datM, hat.dp, .lst (SqL.of W4.fnd) (dps_datM W4.at_), shaped_datM hokm, shaped_datMs hokq, _, rfl, ?_⟩
          by_cases hin : muM so c0 (yy ++ [cc]) ∈ qk
          · rw [(any_datM qk _).mpr hin]
            show (if false = true then _ else _)
            rw [if_neg (by decide)]
            have ea : add1 qk (muM so c0 (yy ++ [cc])) = qk := if_pos hin
            rw [ea]
            refine ⟨_, rfl, Or.inl ⟨rfl, _, SqL.of hr4⟩, _, rfl, Or.inl ⟨rfl, _, SqL.of W4.fnd⟩, _, rfl, M, _, datM (muM so c0 (yy ++ [cc])), qk.map datM, num qk (muM so c0 (yy ++ [cc])), datM (muM so c0 (yy ++ [cc])), rfl, rfl, .lst (SqL.of W4.fnd) (dps_datM W4.at_), hat.dp, shaped_datMs hokq, shaped_datM hokm, (by rw [List.getElem?_map, num_get hin]; rfl), (by rw [eqv_datM]; exact decide_eq_true rfl), (fun m' z' hm' hz' => first qk m' z' hm' hz'), rr, _, _, rfl, rfl, hr4, ?_, ?_⟩
            · rw [List.length_map]; exact small1000 (by omega)
            · exact ⟨as', ys', _, _, rfl, hpy, W4.putr hr4 nrM nrC nrR hfr hr0, by rw [upd_same, List.map_append]; rfl⟩
          · rw [Bool.eq_false_iff.mpr fun q => hin ((any_datM qk _).mp q)]
            show (if true = true then _ else _)
            rw [if_pos rfl]
            have ea : add1 qk (muM so c0 (yy ++ [cc])) = qk ++ [muM so c0 (yy ++ [cc])] := if_neg hin
            rw [ea]
            have W5 := W4.add nCM ⟨nRM, nRC⟩ hM0 hC hat (by rw [List.length_append, List.length_singleton]; have := hpy.length_le; omega) hyc
            have hcol : L2.upd H4 M (.lst (as' ++ [v'])) C = some (.lst (ys'.map fun l => V.str (mkS l))) := by
              rw [upd_ne nCM]; exact W4.col
            refine ⟨_, rfl, Or.inl ⟨rfl, _, SqL.of W4.fnd⟩, _, rfl, M, _, _, rfl, rfl, W4.fnd, small1000 (by omega), _, rfl, Or.inl ⟨rfl, _, SqL.of hcol⟩, _, rfl, _, rfl, C, ys'.map fun l => V.str (mkS l), (0 : Int) + n, .str (mkS yy), rfl, rfl, SqL.of hcol, hat', _, rfl, mkS yy, sg cc, rfl, rfl, hsz, C, _, _, rfl, rfl, hcol, small1000 (by rw [List.length_map]; omega), ?_⟩
            rw [mkS_snoc]
            have hr5 : (L2.upd (L2.upd H4 M (.lst (as' ++ [v']))) C (.lst ((ys'.map fun l => V.str (mkS l)) ++ [.str (mkS (yy ++ [cc]))]))) rr = some (.lst (qr.map fun (n : Nat) => V.int (n : Int))) := by
              rw [upd_ne nrC, upd_ne nrM]; exact hr4
            generalize L2.upd (L2.upd H4 M (.lst (as' ++ [v']))) C (.lst ((ys'.map fun l => V.str (mkS l)) ++ [.str (mkS (yy ++ [cc]))])) = H5 at W5 hr5 ⊢
            have hin2 : muM so c0 (yy ++ [cc]) ∈ qk ++ [muM so c0 (yy ++ [cc])] := by simp
            have hokq2 : ∀ k ∈ qk ++ [muM so c0 (yy ++ [cc])], okM k := fun k hk => by
              rcases List.mem_append.mp hk with q | q
              · exact hokq k q
              · rw [List.mem_singleton.mp q]; exact hokm
            have hat5 : MAt H5 v' (muM so c0 (yy ++ [cc])) := W5.at_.2 qk.length v' _ (by rw [← la3, List.getElem?_append_right (Nat.le_refl _), Nat.sub_self]; rfl) (by rw [List.getElem?_append_right (Nat.le_refl _), Nat.sub_self]; rfl)
            refine ⟨_, rfl, Or.inl ⟨rfl, _, SqL.of hr5⟩, _, rfl, Or.inl ⟨rfl, _, SqL.of W5.fnd⟩, _, rfl, M, _, datM (muM so c0 (yy ++ [cc])), (qk ++ [muM so c0 (yy ++ [cc])]).map datM, num (qk ++ [muM so c0 (yy ++ [cc])]) (muM so c0 (yy ++ [cc])), datM (muM so c0 (yy ++ [cc])), rfl, rfl, .lst (SqL.of W5.fnd) (dps_datM W5.at_), hat5.dp, shaped_datMs hokq2, shaped_datM hokm, (by rw [List.getElem?_map, num_get hin2]; rfl), (by rw [eqv_datM]; exact decide_eq_true rfl), (fun m' z' hm' hz' => first _ m' z' hm' hz'), rr, _, _, rfl, rfl, hr5, ?_, ?_⟩
            · rw [List.length_map]; exact small1000 (by omega)
            · exact ⟨as' ++ [v'], ys' ++ [yy ++ [cc]], _, _, rfl, hpy.trans (List.prefix_append _ _), W5.putr hr5 nrM nrC nrR hfr hr0, by rw [upd_same, List.map_append]; rfl⟩
        · rintro σ H3 ⟨as', ys', v7, v8, rfl, hpy, W3, hr3⟩
          rw [List.take_of_length_le (by rw [← TL.len_tl]; exact Nat.le_refl _)] at W3 hr3
          have et : turns (lstM so) (TL.tl z) (muM so c0 []) (n + 1) = ((rowOf (lstM so) mm (TL.tl z) (ks, [])).1, rows ++ [(rowOf (lstM so) mm (TL.tl z) (ks, [])).2]) := by
            show turn (lstM so) (TL.tl z) (turns (lstM so) (TL.tl z) (muM so c0 []) n) = _
            rw [ep]
            unfold turn
            dsimp only
            rw [hn, hmm]
          refine ⟨_, rfl, Or.inl ⟨rfl, _, SqL.of W3.rws⟩, _, rfl, R, _, _, rfl, rfl, W3.rws, small1000 (by rw [List.length_map]; omega), as', ys', rs ++ [rr], _, _, _, _, _, rfl, ?_, fun i hi => ?_, n40⟩
          · rw [et]
            exact W3.addr ⟨nRM, nRC⟩ hR0 hr3 nrM nrC nrR
          · by_cases e : i = n
            · subst e; rw [ep]; exact hn ▸ c1
            · exact hlt i (by omega)
    · rintro σ H1 ⟨as, ys, rs, v5, v6, v7, v8, v9, rfl, W, hlt, hn40⟩
      exact absurd hn40 (by decide)
end
end Vf
set_option Elab.async false
set_option linter.all false
set_option maxRecDepth 100000
set_option maxHeartbeats 4000000
namespace Vf
open PySem L2 PyProof.Rows
open NdefX LamX
theorem kl_ext {H H' : Hp} (k : ExtN H H') : Kl H H' := fun b o e d => k b o e fun ps z => by rw [z] at d; exact d
def LSort.le (s : LSort) (m : Nat) : Prop := match s with | .changes n => n ≤ m | _ => True
theorem SortAt.kp {K : PySem.W.Frag} {H H' : Hp} {v : V} {s : LSort} {p : Addr} {kvs : List (Key × V)} (x : SortAt K H v s) (k : Kp p H H') (hp : H p = some (.dK kvs)) : SortAt K H' v s := by
  obtain ⟨a, e, h⟩ := x
  refine ⟨a, e, ?_⟩
  rcases h with (h | ⟨o, h⟩) | h
  · exact Or.inl (Or.inl (k _ _ h (L2.ne_of h hp (fun z => nomatch z))))
  · exact Or.inl (Or.inr ⟨o, k _ _ h (L2.ne_of h hp (fun z => nomatch z))⟩)
  · exact Or.inr h
theorem SortAt.sameT {K : PySem.W.Frag} {NT : List NTab} {H H' : Hp} {v : V} {s : LSort} (x : SortAt K H v s) (k : SameT NT H H') : SortAt K H' v s := by
  obtain ⟨a, e, h⟩ := x
  exact ⟨a, e, (kl_ext k.ext).seqT h⟩
section
variable {P : Program} {w : World} {K : PySem.W.Frag} {mg : Str → Option Value} {base : Heap}
def spSort (K : PySem.W.Frag) : Sp := fun vs H Q _ => ∃ (p c : Addr) (most n : Nat), vs = [.ref p, .int most] ∧ Pen H p c n ∧ n ≤ 2 ^ 29 ∧ most ≤ 100 ∧ ∀ (v : V) (s : LSort) (H' : Hp), SortAt K H' v s → s.le most → Pen H' p c (n + 2) → Kp p H H' → Q v H'
abbrev s__law_sort : Stmt := top 34
abbrev N__law_sort : List Str := ["_law_pen_here", "_law_most"]
abbrev P__law_sort : List Str := ["_law_pen_here", "_law_most"]
theorem sc__law_sort : FnScope N__law_sort P__law_sort (defScope s__law_sort) := ⟨rfl, rfl, rfl, by decide +kernel, rfl, by decide +kernel, by decide +kernel⟩

theorem ok_sort {f fD fP : Addr} {fd fdD fdP : FuncData} (F : Fun K "_law_sort" "_law_sort" s__law_sort f fd) (T : TxtP K mg fD fP) (FD : Fun K "_law_draw" "_law_draw" s__law_draw fD fdD) (b_law_draw : Binds K fdD P__law_draw [])
    (FP : Fun K "_law_pick" "_law_pick" s__law_pick fP fdP) (b_law_pick : Binds K fdP P__law_pick []) : FnOk P w K mg base CX0 3 f fd P__law_sort (spSort K) := by
  have G_law_draw : FnOk P w K mg base CX0 1 fD fdD P__law_draw spDraw := ok_draw FD T.toTxtA
  have G_law_pick : FnOk P w K mg base CX0 2 fP fdP P__law_pick (spPickL K) := ok_pickL FP T.toTxtD FD b_law_draw
  refine F.ok sc__law_sort (fun vs H Q E h => ?_) (fun cdv A outer s H vs Q E hr h => ?_)
  · obtain ⟨p, c, most, n, rfl, _⟩ := h
    rfl
  · obtain ⟨p, c, most, n, rfl, hp, hn, hm, k⟩ := h
    refine ⟨_, (pss_one (ps_ret (pe_call G_law_pick (hr.mono (by decide)) (by rfl) T.m_law_pick T.k_law_pick b_law_pick .nil pass0 (pa_cons (pv 0) (pa_cons (pe_lst (pa_cons (pe_tup (pa_cons pe_str pa_nil)) (pa_cons (pe_tup (pa_cons pe_str pa_nil)) (pa_cons (pe_tup (pa_cons pe_str (pa_cons (pe_call G_law_draw (hr.mono (by decide)) (by rfl) T.m_law_draw T.k_law_draw b_law_draw .nil pass0 (pa_cons (pv 0) (pa_cons (pe_op op_add (pv 1) pe_int) pa_nil))) pa_nil))) pa_nil)))) pa_nil))))), ?_⟩
    refine ⟨_, rfl, by show 1 ≤ sizeLine; decide, fun t1 ht1 => ⟨by show 1 ≤ sizeLine; decide, fun t2 ht2 => ?_⟩⟩
    have hp2 := (hp.same (same_new (o := .tup [.str "every"]) ht1)).same (same_new (o := .tup [.str "rising"]) ht2)
    have q1 : (L2.upd (L2.upd H t1 (.tup [.str "every"])) t2 (.tup [.str "rising"])) t1 = some (.tup [.str "every"]) := same_new ht2 _ _ upd_same
    have q2 : (L2.upd (L2.upd H t1 (.tup [.str "every"])) t2 (.tup [.str "rising"])) t2 = some (.tup [.str "rising"]) := upd_same
    have k2 : Kp p H (L2.upd (L2.upd H t1 (.tup [.str "every"])) t2 (.tup [.str "rising"])) := Kp.of ((same_new ht1).trans (same_new ht2))
    generalize L2.upd (L2.upd H t1 (.tup [.str "every"])) t2 (.tup [.str "rising"]) = H2 at hp2 q1 q2 k2 ⊢
    obtain ⟨kv2, hd2⟩ := hp2.dk
    refine ⟨_, rfl, _, rfl, _, _, rfl, rfl, p, c, _, n, rfl, hp2, by omega, by omega, by omega, fun d H3 d0 d1 hp3 k3 => ⟨by show 2 ≤ sizeLine; decide, fun t3 ht3 => ⟨by show 3 ≤ sizeLine; decide, fun l hl => ?_⟩⟩⟩
    have q1 := k3 _ _ q1 (L2.ne_of q1 hd2 (fun z => nomatch z))
    have q2 := k3 _ _ q2 (L2.ne_of q2 hd2 (fun z => nomatch z))
    have s5 : Same H3 (L2.upd (L2.upd H3 t3 (.tup [.str "changes", .int d])) l (.lst [.ref t1, .ref t2, .ref t3])) := (same_new ht3).trans (same_new hl)
    have q3 : (L2.upd (L2.upd H3 t3 (.tup [.str "changes", .int d])) l (.lst [.ref t1, .ref t2, .ref t3])) t3 = some (.tup [.str "changes", .int d]) := same_new hl _ _ upd_same
    have ql : (L2.upd (L2.upd H3 t3 (.tup [.str "changes", .int d])) l (.lst [.ref t1, .ref t2, .ref t3])) l = some (.lst [.ref t1, .ref t2, .ref t3]) := upd_same
    have hp5 := hp3.same s5
    have q1 := s5 _ _ q1
    have q2 := s5 _ _ q2
    refine ⟨p, c, l, [.ref t1, .ref t2, .ref t3], _, rfl, hp5, by omega, SqL.of ql, (by show 0 < 3; decide), (by show 3 ≤ 1000; decide), fun j v H6 hj hp6 k6 => ?_⟩
    obtain ⟨kv5, hd5⟩ := hp5.dk
    have kA := ((k2.trans k3).trans (Kp.of s5)).trans k6
    have q1 := k6 _ _ q1 (L2.ne_of q1 hd5 (fun z => nomatch z))
    have q2 := k6 _ _ q2 (L2.ne_of q2 hd5 (fun z => nomatch z))
    have q3 := k6 _ _ q3 (L2.ne_of q3 hd5 (fun z => nomatch z))
    match j, hj with
    | 0, hj =>
      obtain rfl : V.ref t1 = v := Option.some.inj hj
      exact k _ .every H6 ⟨t1, rfl, SqT.of q1⟩ trivial (hp6.mono (by omega)) kA
    | 1, hj =>
      obtain rfl : V.ref t2 = v := Option.some.inj hj
      exact k _ .rising H6 ⟨t2, rfl, SqT.of q2⟩ trivial (hp6.mono (by omega)) kA
    | 2, hj =>
      obtain rfl : V.ref t3 = v := Option.some.inj hj
      obtain ⟨m, rfl⟩ : ∃ m : Nat, d = m := ⟨d.toNat, by omega⟩
      exact k _ (.changes m) H6 ⟨t3, rfl, SqT.of q3⟩ (show m ≤ most by omega) (hp6.mono (by omega)) kA
    | j + 3, hj => exact nomatch hj
end
end Vf
set_option Elab.async false
set_option linter.all false
set_option maxRecDepth 100000
set_option maxHeartbeats 4000000
/-! raise C(): an own class over an own class over ValueError, without __init__, without arguments -/
namespace Vf
open PySem L2 PyProof.Rows
theorem pmk_own0 {X : Cx} {C : Addr} {bmB : List Value} {B newId initId : String} {x : Str} {p pos : Pos} (F : ExcBaseFacts B newId initId bmB) (q : PySem.W.excIn X.K C bmB newId = true) (gC : X.mg x = some (.ref C)) (kC : PySem.W.keepIn X.K (.ref C) = true) (r : Raises X (.ref C)) (hg : Gl X x)
    (hdb : (x == ("__debug__" : Str)) = false := by decide) : PMk X (.Call (.Name x p) [] [] pos) (fun _ H Q => Q (.ref C) none H) := by
  intro pins s σ H Q I h
  refine wpAny_Call_Name_kw (ld_glob I hg gC ?_ hdb)
  obtain ⟨hp1, g1, d1, tk1, os1⟩ := s
  refine PySem.W.callWith_K0 (first := []) I.kIn kC ?_
  obtain ⟨bm, N, nm, qn, bs, hdct, sn, sub, ab, col, dd, k0, k1, k2, k3, k5, mN, hC, hN, hni, T⟩ := exc_obj I.kIn q
  refine wpAny_call_exc_subT F T hC hN hni (fun h' e hm => ?_) (Nat.zero_le _)
  exact mk_of I hm r h (I.hok.gone hm.new)
/-- what is asked of such a class -/
structure PlainE (K : PySem.W.Frag) (mg : Str → Option Value) (x : Str) (C : Addr) (bmB : List Value) (newId : String) : Prop where
  q : PySem.W.excIn K C bmB newId = true
  g : mg x = some (.ref C)
  k : PySem.W.keepIn K (.ref C) = true
  s : PySem.W.subIn K (.ref C) (.type "BaseException") = some true
  t : PySem.W.typeIn K (.ref C) = some (.type "type")
theorem pmk_plain {X : Cx} {C : Addr} {bmB : List Value} {B newId initId : String} {x : Str} {p pos : Pos} (F : ExcBaseFacts B newId initId bmB) (T : PlainE X.K X.mg x C bmB newId) (hg : Gl X x) (hdb : (x == ("__debug__" : Str)) = false := by decide) : PMk X (.Call (.Name x p) [] [] pos) (fun _ H Q => Q (.ref C) none H) :=
  pmk_own0 F T.q T.g T.k (raises_own T.s T.t) hg hdb
end Vf
namespace Vf
open PySem L2 PyProof.Rows
/-- a call without arguments of a function that a name holds, in a try: the promise depends on the slots -/
def tCallV0V (i : Nat) (f : Addr) (S : Hp → Prop) (sp : Sp) (E : L2.St → XK) : TE := fun σ H Q => σ[i]? = some (some (.ref f)) ∧ S H ∧ sp [] H Q (E σ)
theorem pe_callV0V {X : Cx} {CX : CXT} {i k : Nat} {f : Addr} {S : Hp → Prop} {sp : Sp} {E : L2.St → XK} {x : Str} {p pos : Pos} (F : FV X.prog X.w X.K X.mg X.base CX k f S sp) (hr : Room k X.A) (hx : ∀ σ, PassesAt CX X σ (E σ)) (hN : X.N[i]? = some x) (hv : Vis X.env.scope x)
    (hd : (x == ("__debug__" : Str)) = false := by decide) (hcd : (x == ("__classdict__" : Str)) = false := by decide) : PE X (.Call (.Name x p) [] [] pos) (tCallV0V i f S sp E) := by
  refine ⟨fun pins s σ H Q I h => ?_⟩
  obtain ⟨hs, hS, q⟩ := h
  refine wpAny_Call_Name_kw (thn ((pe_var (pos := p) hN hv hd hcd).run pins s σ H (fun v H1 => v = .ref f ∧ H1 = H) I ⟨.ref f, hs, rfl, rfl⟩) fun u s1 ⟨v, H1, I1, r1, q1⟩ => ?_)
  obtain ⟨ev, eH⟩ := q1
  subst ev
  rw [eH] at I1
  have r1' : u = Value.ref f := r1
  subst r1'
  refine PySem.W.callWith_F0 (first := []) (F.fn H s1.heap I1.kIn I1.hok hS) ?_
  refine wpAny_call (codeAny_mono (F.run X.A X.stack s1 H [] [] Q (E σ) hr I1.env0 hS .nil q) fun rr s' hq => ?_)
  rcases rr with er | fl
  · exact hx σ pins H s1 er s' I1 hq
  · cases fl with
    | ret u => exact I1.after hq
    | next => exact hq.elim
    | brk => exact hq.elim
    | cont => exact hq.elim
end Vf
set_option Elab.async false
set_option linter.all false
set_option maxRecDepth 100000
set_option maxHeartbeats 4000000
namespace Vf
open PySem L2 PyProof.Rows
open NdefX LamX
structure TxtMk (K : PySem.W.Frag) (mg : Str → Option Value) (fM : Addr) : Prop where
  mmade : mg "made" = some (.ref fM)
  kmade : PySem.W.keepIn K (.ref fM) = true
def lineOf : Stmt → Nat
  | .FunctionDef _ _ _ _ _ _ _ _ _ pos => pos.line
  | _ => 0
structure TxtN2 (bh : Heap) (mg : Str → Option Value) (NT : List NTab) (c p : Addr) (nm : Nat → Nat → Str) : Prop where
  tb : TabB bh mg c p
  tm : (p, nm) ∈ NT
  tu : ∀ x ∈ NT, x.1 = p → x.2 = nm
abbrev s_beside : Stmt := top 22
abbrev N_beside : List Str := ["one", "other", "is_good", "step"]
abbrev P_beside : List Str := ["one", "other", "is_good"]
theorem sc_beside : FnScope N_beside P_beside (defScope s_beside) := ⟨rfl, rfl, rfl, by decide +kernel, rfl, by decide +kernel, by decide +kernel⟩

abbrev n_beside_step : Stmt := (defBody s_beside).getD 1 (.Pass ⟨0, 0, 0, 0⟩)
abbrev N_beside_step : List Str := ["memory", "value", "one", "other"]
abbrev P_beside_step : List Str := ["memory", "value"]
abbrev R_beside_step : List Str := ["one", "other"]
theorem ns_beside_step : NScope N_beside_step P_beside_step R_beside_step (C8.fnScope n_beside_step) := nscope_by (by decide +kernel)
theorem nd_beside_step : ndefB (defScope s_beside) (C8.fnScope n_beside_step) R_beside_step = true := by decide +kernel
theorem nc_beside_step : cellsB (defScope s_beside) (C8.fnScope n_beside_step) = true := by decide +kernel

abbrev Q_beside : Str := (envOfC "beside" (defScope s_beside) 0 0 .none).qual
abbrev nm_beside : Nat → Nat → Str := fun l _ => Q_beside ++ "step"
def pst (g1 g2 : List (List Int)) (L : List Nat) : List Key → Nat → List Key
  | [.inl a, .inl b], c => [.inl (stepG g1 L a c), .inl (stepG g2 L b c)]
  | k, _ => k
def pDm (g1 g2 : List (List Int)) (k : List Key) : Prop := ∃ a b : Int, 0 ≤ a ∧ a < g1.length ∧ 0 ≤ b ∧ b < g2.length ∧ k = [.inl a, .inl b]
theorem pst_dm {g1 g2 : List (List Int)} {z : Str} (h1 : GoodRows z.length g1) (h2 : GoodRows z.length g2) : ∀ k c, pDm g1 g2 k → c ∈ TL.tl z → pDm g1 g2 (pst g1 g2 (TL.tl z) k c) := by
  rintro k c ⟨a, b, a0, a1, b0, b1, rfl⟩ hc
  rw [TL.len_tl] at h1 h2
  obtain ⟨x0, x1⟩ := stepG_ok h1 a0 a1 hc
  obtain ⟨y0, y1⟩ := stepG_ok h2 b0 b1 hc
  exact ⟨_, _, x0, x1, y0, y1, rfl⟩
/-- made shapes: what callers get -/
def MadeS (K : PySem.W.Frag) (NT : List NTab) (C : Addr) (z : Str) {κ : Type} [DecidableEq κ] (st : κ → Nat → κ) (gd : κ → Bool) (s0 : κ) (H : Hp) (Q : VK) : Prop :=
  ∀ o H', SameT NT H H' → ShapeAt K C H' o z (goals (turns st (TL.tl z) s0 40).2) (goodFrom gd 0 (turns st (TL.tl z) s0 40).1) → GoodRows z.length (goals (turns st (TL.tl z) s0 40).2) → (turns st (TL.tl z) s0 40).1.length ≤ 40 → Q (.ref o) H'
theorem ShapeAt.hid {K : PySem.W.Frag} {C o : Addr} {cs : Cs} {H : Hp} {z : Str} {gs : List (List Int)} {es : List Int} (c : ShapeAt K C H o z gs es) (hc : HeldC cs H) : ShapeAt K C (Vf.hid cs H) o z gs es := by
  obtain ⟨dx, R, E, h1, h2, h3⟩ := c
  exact ⟨dx, R, E, hid_keep hc h1 (fun _ z => nomatch z), h2.mv (kl_hid hc), h3.mv (kl_hid hc)⟩
theorem step_hid {κ : Type} [DecidableEq κ] {kd : Kd κ} {st : κ → Nat → κ} {Dm : κ → Prop} {z : Str} {cs : Cs} {H : Hp} {vs : List V} {Q : VK} {E E' : XK} (hc : HeldC cs H) (h : spStep kd st Dm z vs H Q E) :
    spStep kd st Dm z vs (hid cs H) (fun v H2 => (∀ c o, cs.lookup c = some o → H2 c = none) → Q v (shw cs H2)) E' := by
  obtain ⟨v, k, c, ev, hat, hDk, hcz, kk⟩ := h
  exact ⟨v, k, c, ev, kd_hid hc hat, hDk, hcz, fun v' H' s1 at' hn => kk v' (shw cs H') (same_up hc s1) (kd_shw hn at')⟩
theorem fnO_ne {f : Addr} {F : NF} (ps : Array Value) : FnO f F ≠ .tbl ps := fun z => nomatch z
theorem fnL_ne {f : Addr} {F : NF} {e : Expr} (ps : Array Value) : FnL f F e ≠ .tbl ps := fun z => nomatch z
theorem stab_shape {K : PySem.W.Frag} {C o : Addr} {z : Str} {rs : List (List Int)} {es : List Int} : Stab fun H => ShapeAt K C H o z rs es := fun H H' q k => by
  obtain ⟨dx, R, E, h1, h2, h3⟩ := q
  exact ⟨dx, R, E, k _ _ h1 (fun _ z => nomatch z), h2.mv (kl_ext k), h3.mv (kl_ext k)⟩
theorem ShapeAt.shw {K : PySem.W.Frag} {C o : Addr} {cs : Cs} {H : Hp} {z : Str} {rs : List (List Int)} {es : List Int} (c : ShapeAt K C H o z rs es) (hn : ∀ c o, cs.lookup c = some o → H c = none) : ShapeAt K C (Vf.shw cs H) o z rs es := c.same (same_shw hn)
def RaisedT (NT : List NTab) (H H' : Hp) (d : Addr) (f : Str) (v : V) : Prop := H d = none ∧ H' d = some (.xd [(f, v)]) ∧ SameT NT H H'
section
variable {P : Program} {w : World} {K : PySem.W.Frag} {mg : Str → Option Value} {base : Heap}
theorem nok_beside_step {C fSt fCG fCD B CB fB' : Addr} {fdSt : FuncData} {o1 o2 : Addr} {z : Str} {g1 g2 : List (List Int)} {e1 e2 : List Int} {fg c' : Addr} {cl : List (Str × Addr)} {q : Str} (T : TxtS K mg C fCG fCD B CB fB') (mtSt : Meth K C "step" fSt) (FSt : Fun K "step" "Shape.step" s_Shape_step fSt fdSt) (bSt : Binds K fdSt P_Shape_step []) (h1 : GoodRows z.length g1) (h2 : GoodRows z.length g2) :
    NOk P w K mg base CX0 2 fg (NF.of n_beside_step "step" q cl c') P_beside_step R_beside_step (fun ws vs H Q E => ws = [some (.ref o1), some (.ref o2)] ∧ ShapeAt K C H o1 z g1 e1 ∧ ShapeAt K C H o2 z g2 e2 ∧ spStep kdT (pst g1 g2 (TL.tl z)) (pDm g1 g2) z vs H Q E) := by
  have GSt : FnOk P w K mg base CX0 1 fSt fdSt P_Shape_step (spStepS K C) := ok_stepS FSt T
  refine nok_of ns_beside_step (fun doc pm ctv us hl => match us, hl with | [_, _], _ => rfl) (fun ws vs H Q E h => ?_) (fun A outer s H vs ws Q E hr hx1 hx2 hx3 h => ?_)
  · obtain ⟨_, _, _, v, k, c, rfl, _⟩ := h
    rfl
  · obtain ⟨rfl, hC1, hC2, v, k, c, rfl, hat, hD, hc, kq⟩ := h
    have hu := hu_of hr
    refine ⟨_, (pss_one (ps_ret (pe_tup (pa_cons (pe_meth (pv 2) T.cl mtSt GSt (hr.mono (by decide)) bSt .nil pass0 (pa_cons (pe_ix ix_tup (pv 0) pe_int (fun _ _ => rfl)) (pa_cons (pv 1) pa_nil))) (pa_cons (pe_meth (pv 3) T.cl mtSt GSt (hr.mono (by decide)) bSt .nil pass0 (pa_cons (pe_ix ix_tup (pv 0) pe_int (fun _ _ => rfl)) (pa_cons (pv 1) pa_nil))) pa_nil))))), ?_⟩
    obtain ⟨a, b, a0, a1, b0, b1, rfl⟩ := hD
    obtain ⟨bb, rfl, hb⟩ := hat
    have hb : H bb = some (.tup [.int a, .int b]) := hb
    obtain ⟨dx, RR, Ev, ho, hR, hE⟩ := id hC1
    refine ⟨_, rfl, o1, dx, _, rfl, ho, sf_no _ _ _ (by decide +kernel) (by decide +kernel) (by decide +kernel), _, rfl, bb, _, 0, .int a, rfl, rfl, SqT.of hb, rfl, _, rfl, o1, a, z, c, g1, e1, rfl, hC1, h1, hc, a0, a1, fun H1 s1 => ?_⟩
    obtain ⟨dx2, RR2, Ev2, ho2, hR2, hE2⟩ := id (hC2.same s1)
    refine ⟨_, rfl, o2, dx2, _, rfl, ho2, sf_no _ _ _ (by decide +kernel) (by decide +kernel) (by decide +kernel), _, rfl, bb, _, 1, .int b, rfl, rfl, SqT.of (s1 _ _ hb), rfl, _, rfl, o2, b, z, c, g2, e2, rfl, hC2.same s1, h2, hc, b0, b1, fun H2 s2 => ⟨by show 2 ≤ sizeLine; decide, fun p hp => ?_⟩⟩
    exact kq (.ref p) _ ((s1.trans s2).trans (same_new hp)) ⟨p, rfl, upd_same⟩
def spBeside (P : Program) (w : World) (K : PySem.W.Frag) (mg : Str → Option Value) (base : Heap) (NT : List NTab) (C CT CU : Addr) : Sp := fun vs H Q E => ∃ (o1 o2 g : Addr) (z1 z2 : Str) (g1 g2 : List (List Int)) (e1 e2 : List Int) (gd : List Key → Bool) (S' : Hp → Prop), vs = [.ref o1, .ref o2, .ref g] ∧ ShapeAt K C H o1 z1 g1 e1 ∧ ShapeAt K C H o2 z2 g2 e2 ∧ z1.length ≤ 26 ∧ TabsN NT H ∧
  FV P w K mg base CX0 8 g S' (spGd kdT gd (pDm g1 g2)) ∧ S' H ∧ Stab S' ∧
  (z1 ≠ z2 → ∀ H', Same H H' → E (.ref CU) none H') ∧
  (z1 = z2 → GoodRows z1.length g1 ∧ GoodRows z1.length g2 ∧ MadeS K NT C z1 (pst g1 g2 (TL.tl z1)) gd [Sum.inl 0, Sum.inl 0] H Q ∧
    (40 < (turns (pst g1 g2 (TL.tl z1)) (TL.tl z1) [Sum.inl 0, Sum.inl 0] 40).1.length → ∀ d H', RaisedT NT H H' d "what" (.str "states") → E (.ref CT) (some d) H'))
theorem ok_beside {NT : List NTab} {f fM fX fI fSt C CT CU fT fCG fCD B CB fB' cT pT : Addr} {fd fdM fdX fdT fdI fdSt fdCG fdCD fdB : FuncData} (F : FunC K "beside" "beside" s_beside f fd cT) (T1 : TxtN2 base mg NT cT pT nm_beside) (T2 : TxtMk K mg fM)
    (TU : PlainE K mg "Unlike" CU [.type "ValueError", .type "Exception", .type "BaseException", .type "object"] "ValueError.__new__")
    (mtSt : Meth K C "step" fSt) (FSt : Fun K "step" "Shape.step" s_Shape_step fSt fdSt) (bSt : Binds K fdSt P_Shape_step [])
    (FM : Fun K "made" "made" s_made fM fdM) (bM : Binds K fdM P_made []) (T : TxtMS K mg C fCG fCD B CB fB' fX) (TE : TxtE K mg B CT fT)
    (FX : Fun K "explored" "explored" s_explored fX fdX) (bX : Binds K fdX P_explored []) (FT : Fun K "__init__" "TooMany.__init__" s_TooMany___init__ fT fdT) (bT : Binds K fdT P_TooMany___init__ [])
    (MShape : Mk K C fI) (FI : Fun K "__init__" "Shape.__init__" s_Shape___init__ fI fdI) (bShape : Binds K fdI P_Shape___init__ []) (FCG : Fun K "check_goals" "check_goals" s_check_goals fCG fdCG) (bCG : Binds K fdCG P_check_goals [])
    (FCD : Fun K "check_good" "check_good" s_check_good fCD fdCD) (bCD : Binds K fdCD P_check_good []) (FB' : Fun K "__init__" "BadCode.__init__" s_BadCode___init__ fB' fdB) (bB' : Binds K fdB P_BadCode___init__ []) : FnOk P w K mg base (L2.CX P w) 11 f fd P_beside (spBeside P w K mg base NT C CT CU) := by
  have GM : FnOk P w K mg base (L2.CX P w) 10 fM fdM P_made (spMadeS P w K mg base C CT kdT) := ok_madeS kdT FM T TE FX bX FT bT MShape FI bShape FCG bCG FCD bCD FB' bB'
  refine F.okX sc_beside (fun vs H Q E h => ?_) (fun A outer s H vs Q E hr h => ?_)
  · obtain ⟨o1, o2, g, z1, z2, g1, g2, e1, e2, gd, S', rfl, _⟩ := h
    rfl
  · obtain ⟨o1, o2, g, z1, z2, g1, g2, e1, e2, gd, S', rfl, hC1, hC2, hz, hT, FE, hS', hst', ku, kq⟩ := h
    have hu := hu_of hr
    have passL : Passes (L2.CX P w) (cxOf (L2.CX P w) P w K mg base N_beside "beside" (defScope s_beside) f (.ref cT) A outer s H E) E := passes_call (takes_of rfl rfl rfl rfl) (fun _ _ _ _ h => h)
    refine ⟨_, (pss_cons (ps_if (pt_cmpR op_ne (pe_fld (pv 0) rfl) (pe_fld (pv 1) rfl) (nomark _)) (pss_one (ps_raise rfl (takes_of rfl rfl rfl rfl) (pmk_plain PySem.F.excBase_ValueError TU (by rfl)))) pss_nil)
      (pss_cons (ps_ndefMS (i := 3) (st := n_beside_step) rfl T1.tb rfl T1.tm rfl T1.tu (ndef_free nd_beside_step) rfl rfl rfl sc_beside.nd rfl (Or.inl rfl) (Or.inr rfl))
      (pss_one (ps_ret (pe_callC cxok GM (hr.mono (by decide)) (fun _ => rfl) (by rfl) T2.mmade T2.kmade bM .nil passL (pa_cons (pe_fld (pv 0) rfl) (pa_cons (pe_tup (pa_cons pe_int (pa_cons pe_int pa_nil))) (pa_cons (pv 3) (pa_cons (pv 2) pa_nil))))))))), ?_⟩
    obtain ⟨dx, RR, Ev, ho, hR, hE⟩ := id hC1
    obtain ⟨dx2, RR2, Ev2, ho2, hR2, hE2⟩ := id hC2
    refine ⟨_, rfl, o1, C, dx, _, _, rfl, ho, T.cl, T.nL, sf_letters _ _ _, _, rfl, o2, C, dx2, _, _, rfl, ho2, T.cl, T.nL, sf_letters _ _ _, rfl, _, rfl, ?_⟩
    by_cases hzz : z1 = z2
    · subst hzz
      obtain ⟨h1, h2, kq, kt⟩ := kq rfl
      rw [decide_eq_true rfl]
      show (if false = true then _ else _)
      rw [if_neg (by decide)]
      refine ⟨hT, fun fg c' H1 eN back T1' nf hfg hc => ?_⟩
      have st1 : SameT NT H H1 := ⟨eN, back, T1'⟩
      have hD1 : ShapeAt K C H1 o1 z1 g1 e1 := stab_shape H H1 hC1 st1.ext
      have hD2 : ShapeAt K C H1 o2 z1 g2 e2 := stab_shape H H1 hC2 st1.ext
      have hS1 : S' H1 := hst' H H1 hS' st1.ext
      obtain ⟨dx3, RR3, Ev3, ho3, hR3, hE3⟩ := id hD1
      refine ⟨_, rfl, o1, C, dx3, _, _, rfl, ho3, T.cl, T.nL, sf_letters _ _ _, by show 2 ≤ sizeLine; decide, fun p hp => ⟨_, rfl, _, rfl, fun cs hcap hcn => ?_⟩⟩
      have st3 : SameT NT H (L2.upd H1 p (.tup [.int 0, .int 0])) := st1.trans (SameT.of (same_new hp) T1')
      have hfg3 := (same_new (o := .tup [.int 0, .int 0]) hp) _ _ hfg
      have hc3 := (same_new (o := .tup [.int 0, .int 0]) hp) _ _ hc
      have hp3 : (L2.upd H1 p (.tup [.int 0, .int 0])) p = some (.tup [.int 0, .int 0]) := upd_same
      have hD13 := hD1.same (same_new (o := .tup [.int 0, .int 0]) hp)
      have hD23 := hD2.same (same_new (o := .tup [.int 0, .int 0]) hp)
      have hS3 := hst'.same (same_new (o := .tup [.int 0, .int 0]) hp) hS1
      generalize L2.upd H1 p (.tup [.int 0, .int 0]) = H3 at hcn st3 hfg3 hc3 hp3 hD13 hD23 hS3 ⊢
      have hcapS := cap_of (scope := C8.fnScope n_beside_step) (fr := R_beside_step) (js := [0, 1]) hcap (cells_free nc_beside_step) (ndef_fr nd_beside_step) rfl
      have FG := (fv_of_nok cxok0 (nok_beside_step (P := P) (w := w) (mg := mg) (base := base) (fg := fg) (c' := c') (cl := _) (q := Q_beside ++ "step") (o1 := o1) (o2 := o2) (e1 := e1) (e2 := e2) T.toTxtS mtSt FSt bSt h1 h2) hcapS).mono (by decide : 2 ≤ 8)
      have FG2 := FG.imp (S' := fun H => HeldF fg (NF.of n_beside_step "step" (Q_beside ++ "step") (cloFrom (cxOf (L2.CX P w) P w K mg base N_beside "beside" (defScope s_beside) f (.ref cT) A outer s H E).env.cells (C8.fnScope n_beside_step).names []) c') cs H ∧ ShapeAt K C H o1 z1 g1 e1 ∧ ShapeAt K C H o2 z1 g2 e2) (sp' := spStep kdT (pst g1 g2 (TL.tl z1)) (pDm g1 g2) z1)
        (fun H h => h.1) (fun vs H Q E h q => ⟨rfl, h.2.1.hid h.1.cells, h.2.2.hid h.1.cells, step_hid h.1.cells q⟩)
      refine ⟨z1, .ref p, fg, g, [Sum.inl 0, Sum.inl 0], pst g1 g2 (TL.tl z1), gd, pDm g1 g2, _, S', rfl, ⟨p, rfl, shw_keep hcn hp3⟩, ⟨0, 0, Int.le_refl _, by have := h1.2; omega, Int.le_refl _, by have := h2.2; omega, rfl⟩, pst_dm h1 h2, ⟨⟨shw_keep hcn hfg3, shw_keep hcn hc3, held_shw⟩, hD13.shw hcn, hD23.shw hcn⟩, hst'.same (same_shw hcn) hS3, (stab_heldF _ _ _).and (stab_shape.and stab_shape), hst', FG2, FE, hz, fun hle o3 H5 s5 hSh hok => ?_, fun hgt d H5 hr5 => ?_⟩
      · have hh := held_same s5
        exact ⟨hh, kq o3 _ (st3.trans (SameT.of (same_hid hcn s5) st3.tab)) (hSh.hid hh) hok hle⟩
      · obtain ⟨r0, r1', r2'⟩ := hr5
        have hh := held_same r2'
        have hout : cs.lookup d = none := by
          cases q : cs.lookup d with
          | none => rfl
          | some y => rw [shw_in q] at r0; cases r0
        have h30 : H3 d = none := by rw [shw_out hout] at r0; exact r0
        exact ⟨hh, kt hgt d _ ⟨st3.back d h30, by rw [hid_out hout]; exact r1', st3.trans (SameT.of (same_hid hcn r2') st3.tab)⟩⟩
    · rw [decide_eq_false (fun q => hzz (V.str.inj q))]
      show (if true = true then _ else _)
      rw [if_pos rfl]
      exact ku hzz H (Same.refl H)
end
end Vf
set_option Elab.async false
set_option linter.all false
set_option maxRecDepth 100000
set_option maxHeartbeats 4000000
namespace Vf
open PySem L2 PyProof.Rows
open NdefX LamX
def pgB (e1 e2 : List Int) : List Key → Bool
  | [.inl a, .inl b] => decide (a ∈ e1) && decide (b ∈ e2)
  | _ => false
def pgW (e1 e2 : List Int) : List Key → Bool
  | [.inl a, .inl b] => decide (a ∈ e1) && !decide (b ∈ e2)
  | _ => false
theorem gd_hid {κ : Type} [DecidableEq κ] {kd : Kd κ} {gd : κ → Bool} {Dm : κ → Prop} {cs : Cs} {H : Hp} {vs : List V} {Q : VK} {E E' : XK} (hc : HeldC cs H) (h : spGd kd gd Dm vs H Q E) :
    spGd kd gd Dm vs (hid cs H) (fun v H2 => (∀ c o, cs.lookup c = some o → H2 c = none) → Q v (shw cs H2)) E' := by
  obtain ⟨v, k, ev, hat, hDk, kk⟩ := h
  exact ⟨v, k, ev, kd_hid hc hat, hDk, fun H' s1 hn => kk (shw cs H') (same_up hc s1)⟩
section
variable {P : Program} {w : World} {K : PySem.W.Frag} {mg : Str → Option Value} {base : Heap}
abbrev s_both : Stmt := top 20
abbrev N_both : List Str := ["one", "other"]
abbrev P_both : List Str := ["one", "other"]
theorem sc_both : FnScope N_both P_both (defScope s_both) := ⟨rfl, rfl, rfl, by decide +kernel, rfl, by decide +kernel, by decide +kernel⟩

abbrev l_both_l0 : Expr := (argN (stVal ((defBody s_both).getD 0 (.Pass ⟨0, 0, 0, 0⟩))) 2)
abbrev N_both_l0 : List Str := ["memory", "one", "other"]
abbrev P_both_l0 : List Str := ["memory"]
abbrev R_both_l0 : List Str := ["one", "other"]
theorem ns_both_l0 : NScope N_both_l0 P_both_l0 R_both_l0 (lamScope l_both_l0) := nscope_by (by decide +kernel)
theorem nc_both_l0 : cellsB (defScope s_both) (lamScope l_both_l0) = true := by decide +kernel
theorem nr_both_l0 : ∀ y ∈ R_both_l0, (y, NameKind.free) ∈ (lamScope l_both_l0).names := by decide +kernel

abbrev Q_both : Str := (envOfC "both" (defScope s_both) 0 0 .none).qual
theorem lok_both {C fCG fCD B CB fB' : Addr} {o1 o2 : Addr} {z z' : Str} {g1 g2 : List (List Int)} {e1 e2 : List Int} {fg c' : Addr} {cl : List (Str × Addr)} {q : Str} (T : TxtS K mg C fCG fCD B CB fB') :
    LOk P w K mg base CX0 1 fg (LF l_both_l0 q cl c') (lamBody l_both_l0) P_both_l0 R_both_l0 (fun ws vs H Q E => ws = [some (.ref o1), some (.ref o2)] ∧ ShapeAt K C H o1 z g1 e1 ∧ ShapeAt K C H o2 z' g2 e2 ∧ spGd kdT (pgB e1 e2) (pDm g1 g2) vs H Q E) := by
  refine lok_of ns_both_l0 (fun pm ctv us hl => match us, hl with | [_], _ => rfl) (fun ws vs H Q E h => ?_) (fun A outer s H vs ws Q E hr hl h => ?_)
  · obtain ⟨_, _, _, v, k, rfl, _⟩ := h
    rfl
  · obtain ⟨rfl, hC1, hC2, v, k, rfl, hat, hD, kq⟩ := h
    have hu := hu_of hr
    refine ⟨_, (pe_and (pe_cmpR op_in_seq (pe_ix ix_tup (pv 0) pe_int (fun _ _ => rfl)) (pe_fld (pv 1) rfl) (by rfl)) (pe_one (pe_cmpR op_in_seq (pe_ix ix_tup (pv 0) pe_int (fun _ _ => rfl)) (pe_fld (pv 2) rfl) (by rfl)))), ?_⟩
    obtain ⟨a, b, a0, a1, b0, b1, rfl⟩ := hD
    obtain ⟨bb, rfl, hb⟩ := hat
    have hb : H bb = some (.tup [.int a, .int b]) := hb
    obtain ⟨dx, RR, Ev, ho, hR, hE⟩ := id hC1
    obtain ⟨dx2, RR2, Ev2, ho2, hR2, hE2⟩ := id hC2
    obtain ⟨ea, xs, rfl, he1, he2⟩ := hE.tupE
    obtain rfl := dpAll_intsE he2
    obtain ⟨eb, ys, rfl, hf1, hf2⟩ := hE2.tupE
    obtain rfl := dpAll_intsE hf2
    have kq : Q (.bl (pgB e1 e2 [.inl a, .inl b])) H := kq H (Same.refl H)
    refine ⟨_, rfl, bb, _, 0, .int a, rfl, rfl, SqT.of hb, rfl, _, rfl, o1, C, dx, _, _, rfl, ho, T.cl, T.nG, sf_good _ _ _, ea, _, rfl, Or.inr he1, rfl, flat_ints e1, ?_⟩
    refine ⟨decide (a ∈ e1), by show V.bl (inV _ _) = _; rw [inV_int], ?_⟩
    by_cases h1 : a ∈ e1
    · rw [if_pos (decide_eq_true h1)]
      refine ⟨_, rfl, bb, _, 1, .int b, rfl, rfl, SqT.of hb, rfl, _, rfl, o2, C, dx2, _, _, rfl, ho2, T.cl, T.nG, sf_good _ _ _, eb, _, rfl, Or.inr hf1, rfl, flat_ints e2, ?_⟩
      show Q (.bl (inV (.int b) (e2.map V.int))) H
      have e : pgB e1 e2 [.inl a, .inl b] = (decide (b ∈ e2)) := by
        show (decide (a ∈ e1) && decide (b ∈ e2)) = _
        rw [decide_eq_true h1, Bool.true_and]
      rw [e] at kq
      rw [inV_int]
      exact kq
    · rw [if_neg (by simpa using h1)]
      have e : pgB e1 e2 [.inl a, .inl b] = false := by
        show (decide (a ∈ e1) && decide (b ∈ e2)) = _
        rw [decide_eq_false h1, Bool.false_and]
      rw [e] at kq
      exact kq
def spBoth (K : PySem.W.Frag) (NT : List NTab) (C CT CU : Addr) : Sp := fun vs H Q E => ∃ (o1 o2 : Addr) (z1 z2 : Str) (g1 g2 : List (List Int)) (e1 e2 : List Int), vs = [.ref o1, .ref o2] ∧ ShapeAt K C H o1 z1 g1 e1 ∧ ShapeAt K C H o2 z2 g2 e2 ∧ z1.length ≤ 26 ∧ TabsN NT H ∧
  (z1 ≠ z2 → ∀ H', SameT NT H H' → E (.ref CU) none H') ∧
  (z1 = z2 → GoodRows z1.length g1 ∧ GoodRows z1.length g2 ∧ MadeS K NT C z1 (pst g1 g2 (TL.tl z1)) (pgB e1 e2) [Sum.inl 0, Sum.inl 0] H Q ∧
    (40 < (turns (pst g1 g2 (TL.tl z1)) (TL.tl z1) [Sum.inl 0, Sum.inl 0] 40).1.length → ∀ d H', RaisedT NT H H' d "what" (.str "states") → E (.ref CT) (some d) H'))
theorem ok_both {NT : List NTab} {f fBe C CT CU fCG fCD B CB fB' cT pT : Addr} {fd fdBe : FuncData} (F : FunC K "both" "both" s_both f fd cT) (T1 : TxtN2 base mg NT cT pT (fun _ _ => Q_both ++ "<lambda>")) (T : TxtS K mg C fCG fCD B CB fB')
    (mbeside : mg "beside" = some (.ref fBe)) (kbeside : PySem.W.keepIn K (.ref fBe) = true) (GBe : FnOk P w K mg base (L2.CX P w) 11 fBe fdBe P_beside (spBeside P w K mg base NT C CT CU)) (bBe : Binds K fdBe P_beside []) : FnOk P w K mg base (L2.CX P w) 12 f fd P_both (spBoth K NT C CT CU) := by
  refine F.okX sc_both (fun vs H Q E h => ?_) (fun A outer s H vs Q E hr h => ?_)
  · obtain ⟨o1, o2, z1, z2, g1, g2, e1, e2, rfl, _⟩ := h
    rfl
  · obtain ⟨o1, o2, z1, z2, g1, g2, e1, e2, rfl, hC1, hC2, hz, hT, ku, kq⟩ := h
    have hu := hu_of hr
    have passL : Passes (L2.CX P w) (cxOf (L2.CX P w) P w K mg base N_both "both" (defScope s_both) f (.ref cT) A outer s H E) E := passes_call (takes_of rfl rfl rfl rfl) (fun _ _ _ _ h => h)
    refine ⟨_, (pss_one (ps_ret (pe_callC cxok GBe (hr.mono (by decide)) (fun _ => rfl) (by rfl) mbeside kbeside bBe .nil passL (pa_cons (pv 0) (pa_cons (pv 1) (pa_cons (pe_lamV T1.tb rfl T1.tm rfl T1.tu rfl (fun y hy e => Or.inl (cells_free nc_both_l0 y hy e))) pa_nil)))))), ?_⟩
    refine ⟨_, rfl, _, rfl, hT, fun fe ce H3 eN3 back3 T3 nf3 hfe hce => fun cs hcap hcn => ?_⟩
    have st3 : SameT NT H H3 := ⟨eN3, back3, T3⟩
    have hD1 : ShapeAt K C H3 o1 z1 g1 e1 := stab_shape H H3 hC1 st3.ext
    have hD2 : ShapeAt K C H3 o2 z2 g2 e2 := stab_shape H H3 hC2 st3.ext
    have hcapL := cap_of (scope := lamScope l_both_l0) (fr := R_both_l0) (js := [0, 1]) hcap (cells_free nc_both_l0) nr_both_l0 rfl
    have FE := ((fv_of_lok cxok0 (lok_both (P := P) (w := w) (K := K) (mg := mg) (base := base) (o1 := o1) (o2 := o2) (z := z1) (z' := z2) (g1 := g1) (g2 := g2) (e1 := e1) (e2 := e2) (fg := fe) (c' := ce) (cl := _) (q := Q_both ++ "<lambda>") T) hcapL).mono (by decide : 1 ≤ 8)).imp (S' := fun Hh => HeldL fe (LF l_both_l0 (Q_both ++ "<lambda>") (cloFrom (cxOf (L2.CX P w) P w K mg base N_both "both" (defScope s_both) f (.ref cT) A outer s H E).env.cells (lamScope l_both_l0).names []) ce) (lamBody l_both_l0) cs Hh ∧ ShapeAt K C Hh o1 z1 g1 e1 ∧ ShapeAt K C Hh o2 z2 g2 e2) (sp' := spGd kdT (pgB e1 e2) (pDm g1 g2))
      (fun H h => h.1) (fun vs H Q E h q => ⟨rfl, h.2.1.hid h.1.cells, h.2.2.hid h.1.cells, gd_hid h.1.cells q⟩)
    have hTs : TabsN NT (shw cs H3) := (SameT.of (same_shw hcn) T3).tab
    refine ⟨o1, o2, fe, z1, z2, g1, g2, e1, e2, _, _, rfl, hD1.shw hcn, hD2.shw hcn, hz, hTs, FE, ⟨⟨shw_keep hcn hfe, shw_keep hcn hce, held_shw⟩, hD1.shw hcn, hD2.shw hcn⟩, (stab_heldL _ _ _ _).and (stab_shape.and stab_shape), fun hzz H5 s5 => ?_, fun hzz => ?_⟩
    · have hh := held_same s5
      exact ⟨hh, ku hzz _ (st3.trans (SameT.of (same_hid hcn s5) T3))⟩
    · obtain ⟨h1, h2, kq, kt⟩ := kq hzz
      refine ⟨h1, h2, fun o3 H5 s5 hSh hok hle => ?_, fun hgt d H5 hr5 => ?_⟩
      · obtain ⟨hh, s4⟩ := sameT_hid hcap.data hcn s5
        exact ⟨hh, kq o3 _ (st3.trans s4) (hSh.hid hh) hok hle⟩
      · obtain ⟨r0, r1', r2'⟩ := hr5
        obtain ⟨hh, s4⟩ := sameT_hid hcap.data hcn r2'
        have hout : cs.lookup d = none := by
          cases q : cs.lookup d with
          | none => rfl
          | some y => rw [shw_in q] at r0; cases r0
        have h30 : H3 d = none := by rw [shw_out hout] at r0; exact r0
        exact ⟨hh, kt hgt d _ ⟨st3.back d h30, by rw [hid_out hout]; exact r1', st3.trans s4⟩⟩
abbrev s_without : Stmt := top 21
abbrev N_without : List Str := ["one", "other"]
abbrev P_without : List Str := ["one", "other"]
theorem sc_without : FnScope N_without P_without (defScope s_without) := ⟨rfl, rfl, rfl, by decide +kernel, rfl, by decide +kernel, by decide +kernel⟩

abbrev l_without_l0 : Expr := (argN (stVal ((defBody s_without).getD 0 (.Pass ⟨0, 0, 0, 0⟩))) 2)
abbrev N_without_l0 : List Str := ["memory", "one", "other"]
abbrev P_without_l0 : List Str := ["memory"]
abbrev R_without_l0 : List Str := ["one", "other"]
theorem ns_without_l0 : NScope N_without_l0 P_without_l0 R_without_l0 (lamScope l_without_l0) := nscope_by (by decide +kernel)
theorem nc_without_l0 : cellsB (defScope s_without) (lamScope l_without_l0) = true := by decide +kernel
theorem nr_without_l0 : ∀ y ∈ R_without_l0, (y, NameKind.free) ∈ (lamScope l_without_l0).names := by decide +kernel

abbrev Q_without : Str := (envOfC "without" (defScope s_without) 0 0 .none).qual
theorem lok_without {C fCG fCD B CB fB' : Addr} {o1 o2 : Addr} {z z' : Str} {g1 g2 : List (List Int)} {e1 e2 : List Int} {fg c' : Addr} {cl : List (Str × Addr)} {q : Str} (T : TxtS K mg C fCG fCD B CB fB') :
    LOk P w K mg base CX0 1 fg (LF l_without_l0 q cl c') (lamBody l_without_l0) P_without_l0 R_without_l0 (fun ws vs H Q E => ws = [some (.ref o1), some (.ref o2)] ∧ ShapeAt K C H o1 z g1 e1 ∧ ShapeAt K C H o2 z' g2 e2 ∧ spGd kdT (pgW e1 e2) (pDm g1 g2) vs H Q E) := by
  refine lok_of ns_without_l0 (fun pm ctv us hl => match us, hl with | [_], _ => rfl) (fun ws vs H Q E h => ?_) (fun A outer s H vs ws Q E hr hl h => ?_)
  · obtain ⟨_, _, _, v, k, rfl, _⟩ := h
    rfl
  · obtain ⟨rfl, hC1, hC2, v, k, rfl, hat, hD, kq⟩ := h
    have hu := hu_of hr
    refine ⟨_, (pe_and (pe_cmpR op_in_seq (pe_ix ix_tup (pv 0) pe_int (fun _ _ => rfl)) (pe_fld (pv 1) rfl) (by rfl)) (pe_one (pe_cmpR op_notIn_seq (pe_ix ix_tup (pv 0) pe_int (fun _ _ => rfl)) (pe_fld (pv 2) rfl) (by rfl)))), ?_⟩
    obtain ⟨a, b, a0, a1, b0, b1, rfl⟩ := hD
    obtain ⟨bb, rfl, hb⟩ := hat
    have hb : H bb = some (.tup [.int a, .int b]) := hb
    obtain ⟨dx, RR, Ev, ho, hR, hE⟩ := id hC1
    obtain ⟨dx2, RR2, Ev2, ho2, hR2, hE2⟩ := id hC2
    obtain ⟨ea, xs, rfl, he1, he2⟩ := hE.tupE
    obtain rfl := dpAll_intsE he2
    obtain ⟨eb, ys, rfl, hf1, hf2⟩ := hE2.tupE
    obtain rfl := dpAll_intsE hf2
    have kq : Q (.bl (pgW e1 e2 [.inl a, .inl b])) H := kq H (Same.refl H)
    refine ⟨_, rfl, bb, _, 0, .int a, rfl, rfl, SqT.of hb, rfl, _, rfl, o1, C, dx, _, _, rfl, ho, T.cl, T.nG, sf_good _ _ _, ea, _, rfl, Or.inr he1, rfl, flat_ints e1, ?_⟩
    refine ⟨decide (a ∈ e1), by show V.bl (inV _ _) = _; rw [inV_int], ?_⟩
    by_cases h1 : a ∈ e1
    · rw [if_pos (decide_eq_true h1)]
      refine ⟨_, rfl, bb, _, 1, .int b, rfl, rfl, SqT.of hb, rfl, _, rfl, o2, C, dx2, _, _, rfl, ho2, T.cl, T.nG, sf_good _ _ _, eb, _, rfl, Or.inr hf1, rfl, flat_ints e2, ?_⟩
      show Q (.bl (!inV (.int b) (e2.map V.int))) H
      have e : pgW e1 e2 [.inl a, .inl b] = (!decide (b ∈ e2)) := by
        show (decide (a ∈ e1) && !decide (b ∈ e2)) = _
        rw [decide_eq_true h1, Bool.true_and]
      rw [e] at kq
      rw [inV_int]
      exact kq
    · rw [if_neg (by simpa using h1)]
      have e : pgW e1 e2 [.inl a, .inl b] = false := by
        show (decide (a ∈ e1) && !decide (b ∈ e2)) = _
        rw [decide_eq_false h1, Bool.false_and]
      rw [e] at kq
      exact kq
def spWithout (K : PySem.W.Frag) (NT : List NTab) (C CT CU : Addr) : Sp := fun vs H Q E => ∃ (o1 o2 : Addr) (z1 z2 : Str) (g1 g2 : List (List Int)) (e1 e2 : List Int), vs = [.ref o1, .ref o2] ∧ ShapeAt K C H o1 z1 g1 e1 ∧ ShapeAt K C H o2 z2 g2 e2 ∧ z1.length ≤ 26 ∧ TabsN NT H ∧
  (z1 ≠ z2 → ∀ H', SameT NT H H' → E (.ref CU) none H') ∧
  (z1 = z2 → GoodRows z1.length g1 ∧ GoodRows z1.length g2 ∧ MadeS K NT C z1 (pst g1 g2 (TL.tl z1)) (pgW e1 e2) [Sum.inl 0, Sum.inl 0] H Q ∧
    (40 < (turns (pst g1 g2 (TL.tl z1)) (TL.tl z1) [Sum.inl 0, Sum.inl 0] 40).1.length → ∀ d H', RaisedT NT H H' d "what" (.str "states") → E (.ref CT) (some d) H'))
theorem ok_without {NT : List NTab} {f fBe C CT CU fCG fCD B CB fB' cT pT : Addr} {fd fdBe : FuncData} (F : FunC K "without" "without" s_without f fd cT) (T1 : TxtN2 base mg NT cT pT (fun _ _ => Q_without ++ "<lambda>")) (T : TxtS K mg C fCG fCD B CB fB')
    (mbeside : mg "beside" = some (.ref fBe)) (kbeside : PySem.W.keepIn K (.ref fBe) = true) (GBe : FnOk P w K mg base (L2.CX P w) 11 fBe fdBe P_beside (spBeside P w K mg base NT C CT CU)) (bBe : Binds K fdBe P_beside []) : FnOk P w K mg base (L2.CX P w) 12 f fd P_without (spWithout K NT C CT CU) := by
  refine F.okX sc_without (fun vs H Q E h => ?_) (fun A outer s H vs Q E hr h => ?_)
  · obtain ⟨o1, o2, z1, z2, g1, g2, e1, e2, rfl, _⟩ := h
    rfl
  · obtain ⟨o1, o2, z1, z2, g1, g2, e1, e2, rfl, hC1, hC2, hz, hT, ku, kq⟩ := h
    have hu := hu_of hr
    have passL : Passes (L2.CX P w) (cxOf (L2.CX P w) P w K mg base N_without "without" (defScope s_without) f (.ref cT) A outer s H E) E := passes_call (takes_of rfl rfl rfl rfl) (fun _ _ _ _ h => h)
    refine ⟨_, (pss_one (ps_ret (pe_callC cxok GBe (hr.mono (by decide)) (fun _ => rfl) (by rfl) mbeside kbeside bBe .nil passL (pa_cons (pv 0) (pa_cons (pv 1) (pa_cons (pe_lamV T1.tb rfl T1.tm rfl T1.tu rfl (fun y hy e => Or.inl (cells_free nc_without_l0 y hy e))) pa_nil)))))), ?_⟩
    refine ⟨_, rfl, _, rfl, hT, fun fe ce H3 eN3 back3 T3 nf3 hfe hce => fun cs hcap hcn => ?_⟩
    have st3 : SameT NT H H3 := ⟨eN3, back3, T3⟩
    have hD1 : ShapeAt K C H3 o1 z1 g1 e1 := stab_shape H H3 hC1 st3.ext
    have hD2 : ShapeAt K C H3 o2 z2 g2 e2 := stab_shape H H3 hC2 st3.ext
    have hcapL := cap_of (scope := lamScope l_without_l0) (fr := R_without_l0) (js := [0, 1]) hcap (cells_free nc_without_l0) nr_without_l0 rfl
    have FE := ((fv_of_lok cxok0 (lok_without (P := P) (w := w) (K := K) (mg := mg) (base := base) (o1 := o1) (o2 := o2) (z := z1) (z' := z2) (g1 := g1) (g2 := g2) (e1 := e1) (e2 := e2) (fg := fe) (c' := ce) (cl := _) (q := Q_without ++ "<lambda>") T) hcapL).mono (by decide : 1 ≤ 8)).imp (S' := fun Hh => HeldL fe (LF l_without_l0 (Q_without ++ "<lambda>") (cloFrom (cxOf (L2.CX P w) P w K mg base N_without "without" (defScope s_without) f (.ref cT) A outer s H E).env.cells (lamScope l_without_l0).names []) ce) (lamBody l_without_l0) cs Hh ∧ ShapeAt K C Hh o1 z1 g1 e1 ∧ ShapeAt K C Hh o2 z2 g2 e2) (sp' := spGd kdT (pgW e1 e2) (pDm g1 g2))
      (fun H h => h.1) (fun vs H Q E h q => ⟨rfl, h.2.1.hid h.1.cells, h.2.2.hid h.1.cells, gd_hid h.1.cells q⟩)
    have hTs : TabsN NT (shw cs H3) := (SameT.of (same_shw hcn) T3).tab
    refine ⟨o1, o2, fe, z1, z2, g1, g2, e1, e2, _, _, rfl, hD1.shw hcn, hD2.shw hcn, hz, hTs, FE, ⟨⟨shw_keep hcn hfe, shw_keep hcn hce, held_shw⟩, hD1.shw hcn, hD2.shw hcn⟩, (stab_heldL _ _ _ _).and (stab_shape.and stab_shape), fun hzz H5 s5 => ?_, fun hzz => ?_⟩
    · have hh := held_same s5
      exact ⟨hh, ku hzz _ (st3.trans (SameT.of (same_hid hcn s5) T3))⟩
    · obtain ⟨h1, h2, kq, kt⟩ := kq hzz
      refine ⟨h1, h2, fun o3 H5 s5 hSh hok hle => ?_, fun hgt d H5 hr5 => ?_⟩
      · obtain ⟨hh, s4⟩ := sameT_hid hcap.data hcn s5
        exact ⟨hh, kq o3 _ (st3.trans s4) (hSh.hid hh) hok hle⟩
      · obtain ⟨r0, r1', r2'⟩ := hr5
        obtain ⟨hh, s4⟩ := sameT_hid hcap.data hcn r2'
        have hout : cs.lookup d = none := by
          cases q : cs.lookup d with
          | none => rfl
          | some y => rw [shw_in q] at r0; cases r0
        have h30 : H3 d = none := by rw [shw_out hout] at r0; exact r0
        exact ⟨hh, kt hgt d _ ⟨st3.back d h30, by rw [hid_out hout]; exact r1', st3.trans s4⟩⟩
end
end Vf
set_option Elab.async false
set_option linter.all false
set_option maxRecDepth 100000
set_option maxHeartbeats 4000000
namespace Vf
open PySem L2 PyProof.Rows
open NdefX LamX
/-- a shape as data -/
def ShD (H : Hp) (t : Addr) (z : Str) (gs : List (List Int)) (es : List Int) : Prop := ∃ (R G : Addr) (rs : List Addr), H t = some (.tup [.str z, .ref R, .ref G]) ∧ H R = some (.lst (rs.map V.ref)) ∧ Forall2 (fun (r : Addr) (row : List Int) => H r = some (.lst (row.map V.int))) rs gs ∧ H G = some (.lst (es.map V.int))
theorem ShD.same {H H' : Hp} {t : Addr} {z : Str} {gs : List (List Int)} {es : List Int} (c : ShD H t z gs es) (s : Same H H') : ShD H' t z gs es := by
  obtain ⟨R, G, rs, h1, h2, h3, h4⟩ := c
  exact ⟨R, G, rs, s _ _ h1, s _ _ h2, h3.imp fun x y _ h => s _ _ h, s _ _ h4⟩
theorem ShD.kp {H H' : Hp} {t p : Addr} {z : Str} {gs : List (List Int)} {es : List Int} {kvs : List (Key × V)} (c : ShD H t z gs es) (k : Kp p H H') (hp : H p = some (.dK kvs)) : ShD H' t z gs es := by
  obtain ⟨R, G, rs, h1, h2, h3, h4⟩ := c
  exact ⟨R, G, rs, k _ _ h1 (L2.ne_of h1 hp (by intro z; cases z)), k _ _ h2 (L2.ne_of h2 hp (by intro z; cases z)), h3.imp fun x y _ h => k _ _ h (L2.ne_of h hp (by intro z; cases z)), k _ _ h4 (L2.ne_of h4 hp (by intro z; cases z))⟩
theorem ShD.sameT {NT : List NTab} {H H' : Hp} {t : Addr} {z : Str} {gs : List (List Int)} {es : List Int} (c : ShD H t z gs es) (k : SameT NT H H') : ShD H' t z gs es := by
  obtain ⟨R, G, rs, h1, h2, h3, h4⟩ := c
  exact ⟨R, G, rs, k.ext _ _ h1 (fun _ z => nomatch z), k.ext _ _ h2 (fun _ z => nomatch z), h3.imp fun x y _ h => k.ext _ _ h (fun _ z => nomatch z), k.ext _ _ h4 (fun _ z => nomatch z)⟩
theorem ShD.of {H : Hp} {t : Addr} {z : Str} {rows : List (List Nat)} {es : List Int} (c : MachAt H t z rows es) : ShD H t z (goals rows) es := by
  obtain ⟨R, G, rs, h1, h2, h3, h4⟩ := c
  refine ⟨R, G, rs, h1, h2, ⟨by unfold goals; rw [List.length_map]; exact h3.1, fun i x y e1 e2 => ?_⟩, h4⟩
  unfold goals at e2
  rw [List.getElem?_map] at e2
  obtain ⟨row, hrow, rfl⟩ := Option.map_eq_some_iff.mp e2
  have := h3.2 i x row e1 hrow
  rw [List.map_map]
  exact this
theorem dpAll_gs {K : PySem.W.Frag} {H : Hp} : ∀ {rs : List Addr} {gs : List (List Int)}, rs.length = gs.length → (∀ (i : Nat) (r : Addr) (row : List Int), rs[i]? = some r → gs[i]? = some row → H r = some (.lst (row.map V.int))) → DpAll K H (rs.map V.ref) (gs.map intsD)
  | [], [], _, _ => .nil
  | r :: rs, row :: gs, hl, h => by
    have h0 := h 0 r row rfl rfl
    have ih := dpAll_gs (K := K) (H := H) (rs := rs) (gs := gs) (by simpa using hl) fun i r' row' h1 h2 => h (i + 1) r' row' h1 h2
    exact DpAll.cons (Dp.lst (SqL.of h0) (dpAll_ints K H _)) ih
section
variable {P : Program} {w : World} {K : PySem.W.Frag} {mg : Str → Option Value} {base : Heap}
def spHasD : Sp := fun vs H Q _ => ∃ (t : Addr) (z y : Str) (gs : List (List Int)) (es : List Int), vs = [.ref t, .str y] ∧ ShD H t z gs es ∧ GoodRows z.length gs ∧ z.length ≤ 26 ∧ (∀ c ∈ TL.tl y, c ∈ TL.tl z) ∧ ∀ H', Same H H' → Q (.bl (decide (walkG gs (TL.tl z) 0 (TL.tl y) ∈ es))) H'
abbrev s__law_has : Stmt := top 30
abbrev N__law_has : List Str := ["_law_shape_here", "_law_column_here", "_law_state", "_law_letter"]
abbrev P__law_has : List Str := ["_law_shape_here", "_law_column_here"]
theorem sc__law_has : FnScope N__law_has P__law_has (defScope s__law_has) := ⟨rfl, rfl, rfl, by decide +kernel, rfl, by decide +kernel, by decide +kernel⟩

theorem ok_hasD {f : Addr} {fd : FuncData} (F : Fun K "_law_has" "_law_has" s__law_has f fd) : FnOk P w K mg base CX0 1 f fd P__law_has spHasD := by
  refine F.ok sc__law_has (fun vs H Q E h => ?_) (fun cdv A outer s H vs Q E hr h => ?_)
  · obtain ⟨t, z, y, gs, es, rfl, _⟩ := h
    rfl
  · obtain ⟨t, z, y, gs, es, rfl, hS, hg, hz, hy, k⟩ := h
    refine ⟨_, (pss_cons (ps_set (i := 2) sc__law_has.nd rfl (Or.inl rfl) pe_int)
      (pss_cons (ps_for PassesOwn.never rfl (pi_str (pv 1)) (pg_name (i := 3) sc__law_has.nd rfl (Or.inl rfl)) (pss_one (ps_set (i := 2) sc__law_has.nd rfl (Or.inl rfl) (pe_ix ix_list (pe_ix ix_list (pe_ix ix_tup (pv 0) pe_int (fun _ _ => rfl)) (pv 2) (fun _ _ => rfl)) (pe_m1 PySem.F.slot_str_index PySem.F.type_str_index mt_sindex (pe_ix ix_tup (pv 0) pe_int (fun _ _ => rfl)) (pv 3)) (fun _ _ => rfl)))))
      (pss_one (ps_ret (pe_cmpR op_in_seq (pv 2) (pe_ix ix_tup (pv 0) pe_int (fun _ _ => rfl)) (by rfl)))))), ?_⟩
    obtain ⟨R, G, rs, ht, hR, hrs, hG⟩ := id hS
    refine ⟨_, rfl, y, rfl, for_it walk_strS (fun i σ H2 => ∃ v3 : Option V, σ = [some (.ref t), some (.str y), some (.int (walkG gs (TL.tl z) 0 ((TL.tl y).take i))), v3] ∧ H2 = H)
        ⟨none, rfl, rfl⟩ (fun _ _ _ _ _ => trivial) ?_ ?_⟩
    · rintro i x σ H3 H2 hi ⟨v3, rfl, rfl⟩ ⟨rfl, c, hc, rfl⟩
      obtain ⟨hlt, hce⟩ := List.getElem?_eq_some_iff.mp hc
      have hcz : c ∈ TL.tl z := hy c (by rw [← hce]; exact List.getElem_mem hlt)
      have hg' : GoodRows (TL.tl z).length gs := by rw [← TL.len_tl]; exact hg
      obtain ⟨a0, a1⟩ := walkG_ok (s := 0) (y := (TL.tl y).take i) hg' (Int.le_refl 0) (by have := hg.2; omega) fun d hd => hy d (List.mem_of_mem_take hd)
      have hw := walkG_more (gs := gs) (L := TL.tl z) (s := 0) hlt
      rw [hce] at hw
      generalize walkG gs (TL.tl z) 0 ((TL.tl y).take i) = s0 at a0 a1 hw ⊢
      obtain ⟨g1, g2, g3, g4⟩ := atG (k := (TL.tl z).idxOf c) hg a0 a1 (by rw [TL.len_tl]; exact idx_lt hcz)
      obtain ⟨rj, hrj⟩ : ∃ rj, rs[s0.toNat]? = some rj := ⟨_, List.getElem?_eq_getElem (by have := hrs.1; omega)⟩
      have hrow := hrs.2 s0.toNat rj _ hrj (List.getElem?_eq_getElem g1)
      obtain ⟨rest, hocc⟩ := occ_sg hcz
      refine ⟨_, rfl, t, _, 1, .ref R, rfl, rfl, SqT.of ht, rfl, _, rfl, R, _, s0, .ref rj, rfl, rfl, SqL.of hR, at_of' (show s0 = ((s0.toNat : Nat) : Int) by omega) (by rw [List.getElem?_map, hrj]; rfl), _, rfl, t, _, 0, .str z, rfl, rfl, SqT.of ht, rfl, ⟨_, rfl⟩, _, rfl, z, sg c, _, rest, rfl, rfl, hocc, rj, _, _, .int (gs[s0.toNat][(TL.tl z).idxOf c]), rfl, rfl, SqL.of hrow, atI_nat (by rw [List.getElem?_map, List.getElem?_eq_getElem g2]; rfl), ?_⟩
      refine ⟨some (.str (sg c)), ?_, rfl⟩
      rw [hw, stepG_eq g1 g2]
      rfl
    · rintro σ H2 ⟨v3, rfl, rfl⟩
      refine ⟨_, rfl, _, rfl, t, _, 2, .ref G, rfl, rfl, SqT.of ht, rfl, G, _, rfl, Or.inl (SqL.of hG), rfl, flat_ints es, ?_⟩
      have := k H2 (Same.refl _)
      rw [TL.len_tl, List.take_length]
      show Q (.bl (inV _ _)) H2
      rw [inV_int]
      exact this
def spMkD (K : PySem.W.Frag) (C : Addr) : Sp := fun vs H Q _ => ∃ (t : Addr) (z : Str) (gs : List (List Int)) (es : List Int), vs = [.ref t] ∧ ShD H t z gs es ∧ GoodRows z.length gs ∧ z.length ≤ 26 ∧ gs.length ≤ 60 ∧ es.length < 64 ∧ (∀ e ∈ es, 0 ≤ e ∧ e < (gs.length : Nat)) ∧ ∀ o H' es', Same H H' → Up es' → (∀ x, x ∈ es' ↔ x ∈ es) → ShapeAt K C H' o z gs es' → Q (.ref o) H'
abbrev s__law_made_shape : Stmt := top 29
abbrev N__law_made_shape : List Str := ["_law_shape_here"]
abbrev P__law_made_shape : List Str := ["_law_shape_here"]
theorem sc__law_made_shape : FnScope N__law_made_shape P__law_made_shape (defScope s__law_made_shape) := ⟨rfl, rfl, rfl, by decide +kernel, rfl, by decide +kernel, by decide +kernel⟩

theorem ok_mkD {f fI C fCG fCD B CB fB' : Addr} {fd fdI fdCG fdCD fdB : FuncData} (F : Fun K "_law_made_shape" "_law_made_shape" s__law_made_shape f fd) (T : TxtS K mg C fCG fCD B CB fB')
    (MShape : Mk K C fI) (FI : Fun K "__init__" "Shape.__init__" s_Shape___init__ fI fdI) (bShape : Binds K fdI P_Shape___init__ []) (FCG : Fun K "check_goals" "check_goals" s_check_goals fCG fdCG) (bCG : Binds K fdCG P_check_goals [])
    (FCD : Fun K "check_good" "check_good" s_check_good fCD fdCD) (bCD : Binds K fdCD P_check_good []) (FB' : Fun K "__init__" "BadCode.__init__" s_BadCode___init__ fB' fdB) (bB' : Binds K fdB P_BadCode___init__ []) : FnOk P w K mg base (L2.CX P w) 6 f fd P__law_made_shape (spMkD K C) := by
  have GShape : FnOk P w K mg base (L2.CX P w) 4 fI fdI P_Shape___init__ (spInitS K C CB) := ok_initS FI T FCG bCG FCD bCD FB' bB'
  refine F.okX sc__law_made_shape (fun vs H Q E h => ?_) (fun cdv A outer s H vs Q E hr h => ?_)
  · obtain ⟨t, z, gs, es, rfl, _⟩ := h
    rfl
  · obtain ⟨t, z, gs, es, rfl, hS, hg, hz, hl, hel, hes, k⟩ := h
    have passL : Passes (L2.CX P w) (cxOf (L2.CX P w) P w K mg base N__law_made_shape "_law_made_shape" (defScope s__law_made_shape) f cdv A outer s H E) E := passes_call (takes_of rfl rfl rfl rfl) (fun _ _ _ _ h => h)
    refine ⟨_, (pss_one (ps_ret (pe_make MShape GShape (hr.mono (by decide)) (by rfl) T.mgShape bShape .nil passL (pa_cons (pe_ix ix_tup (pv 0) pe_int (fun _ _ => rfl)) (pa_cons (pe_ix ix_tup (pv 0) pe_int (fun _ _ => rfl)) (pa_cons (pe_ix ix_tup (pv 0) pe_int (fun _ _ => rfl)) pa_nil)))))), ?_⟩
    obtain ⟨R, G, rs, ht, hR, hrs, hG⟩ := id hS
    refine ⟨_, rfl, t, _, 0, .str z, rfl, rfl, SqT.of ht, rfl, _, rfl, t, _, 1, .ref R, rfl, rfl, SqT.of ht, rfl, _, rfl, t, _, 2, .ref G, rfl, rfl, SqT.of ht, rfl, fun x dx hx hdx ne => ?_⟩
    have hx' : (L2.upd H dx (.own x)) x = none := by rw [upd_ne ne.symm]; exact hx
    have s6 : Same H (L2.upd (L2.upd H dx (.own x)) x (.ins C dx [])) := (same_new hdx).trans (same_new hx')
    have hRw : Dp K H (.ref R) (rowsID gs) := Dp.lst (SqL.of hR) (dpAll_gs hrs.1 fun i r row h1 h2 => hrs.2 i r row h1 h2)
    refine ⟨x, dx, z, .ref R, G, gs, es, rfl, upd_same, Or.inl (hRw.mv (Kl.same s6)), SqL.of (s6 _ _ hG), by omega, by omega, by omega, fun r' hr' => ?_, fun _ _ H' es' hu' hm' hSh k7 => ⟨rfl, k x H' es' (fun b u e => k7 b u (s6 b u e) fun q => by rw [q, hx] at e; cases e) hu' hm' hSh⟩, fun i hb => absurd hb (not_badRow hg), fun _ i hi hb => absurd (hes _ (List.getElem_mem hi)) hb⟩
    obtain ⟨i, hi, rfl⟩ := List.getElem_of_mem hr'
    have := hg.1 i hi
    have e1 : gs[i].length = z.length := Classical.byContradiction fun q => this (Or.inl q)
    omega
end
end Vf
set_option Elab.async false
set_option linter.all false
set_option maxRecDepth 100000
set_option maxHeartbeats 4000000
namespace Vf
open PySem L2 PyProof.Rows
open NdefX LamX
section
variable {P : Program} {w : World} {K : PySem.W.Frag} {mg : Str → Option Value} {base : Heap}
def spShape : Sp := fun vs H Q _ => ∃ (p c : Addr) (z : Str) (most n : Nat), vs = [.ref p, .str z, .int most] ∧ Pen H p c n ∧ n ≤ 2 ^ 29 ∧ 1 ≤ most ∧ most ≤ 8 ∧ z.length ≤ 3 ∧
  ∀ (t : Addr) (H' : Hp) (gs : List (List Int)) (es : List Int), ShD H' t z gs es → GoodRows z.length gs → gs.length ≤ most → (∀ e ∈ es, 0 ≤ e ∧ e < (gs.length : Nat)) → es.length ≤ 8 → Pen H' p c (n + 100) → Kp p H H' → Q (.ref t) H'
abbrev s__law_shape : Stmt := top 28
abbrev N__law_shape : List Str := ["_law_pen_here", "_law_letters_here", "_law_most", "_law_count", "_law_rows", "_law_state", "_law_good", "_law_letter"]
abbrev P__law_shape : List Str := ["_law_pen_here", "_law_letters_here", "_law_most"]
theorem sc__law_shape : FnScope N__law_shape P__law_shape (defScope s__law_shape) := ⟨rfl, rfl, rfl, by decide +kernel, rfl, by decide +kernel, by decide +kernel⟩

theorem ok_shape {f fD : Addr} {fd fdD : FuncData} (F : Fun K "_law_shape" "_law_shape" s__law_shape f fd) (T : TxtD K mg fD) (FD : Fun K "_law_draw" "_law_draw" s__law_draw fD fdD) (b_law_draw : Binds K fdD P__law_draw []) : FnOk P w K mg base CX0 2 f fd P__law_shape spShape := by
  have G_law_draw : FnOk P w K mg base CX0 1 fD fdD P__law_draw spDraw := ok_draw FD T.toTxtA
  refine F.ok sc__law_shape (fun vs H Q E h => ?_) (fun cdv A outer s H vs Q E hr h => ?_)
  · obtain ⟨p, c, z, most, n, rfl, _⟩ := h
    rfl
  · obtain ⟨p, c, z, most, n, rfl, hp, hn, hm1, hm8, hz, k⟩ := h
    have hu := hu_of hr
    refine ⟨_, (pss_cons (ps_asg (pe_tup (pa_cons (pe_op op_add pe_int (pe_call G_law_draw (hr.mono (by decide)) (by rfl) T.m_law_draw T.k_law_draw b_law_draw .nil pass0 (pa_cons (pv 0) (pa_cons (pv 2) pa_nil)))) (pa_cons (pe_lst pa_nil) pa_nil))) (pg_tup (by rfl) (pgs_cons (pg_name (i := 3) sc__law_shape.nd rfl (Or.inr rfl)) (pgs_cons (pg_name (i := 4) sc__law_shape.nd rfl (Or.inl rfl)) pgs_nil))))
      (pss_cons (ps_for PassesOwn.never rfl (pi_range1 (by rfl) T.range (pa_cons (pv 3) pa_nil)) (pg_name (i := 5) sc__law_shape.nd rfl (Or.inl rfl)) (pss_one (ps_expr (pe_bm PySem.F.plainAttrs_list PySem.F.slot_list_append PySem.F.type_list_append mt_append (pv 4) (pa_cons (pe_lc (own := [("_law_letter", 7)]) (g := gName 7) (by rfl) sc__law_shape.nd (pi_str (pv 1)) (blkOk_by (own := [("_law_letter", 7)]) (N := N__law_shape) (sc := defScope s__law_shape) (by decide +kernel)) (fun _ _ _ _ _ => pg_name (i := 7) sc__law_shape.nd rfl (Or.inl rfl)) (fun _ _ _ _ _ => pts_nil) (fun _ _ _ _ _ => (pe_call G_law_draw (hr.mono (by decide)) (by rfl) T.m_law_draw T.k_law_draw b_law_draw .nil pass0 (pa_cons (pv 0) (pa_cons (pv 3) pa_nil))))) pa_nil)))))
      (pss_cons (ps_setLc (i := 6) (own := [("_law_state", 5)]) (g := gName 5) (by rfl) sc__law_shape.nd rfl rfl (sw_true rfl rfl rfl (by decide +kernel)) (pi_range1 (by rfl) T.range (pa_cons (pv 3) pa_nil)) (blkOk_by (own := [("_law_state", 5)]) (N := N__law_shape) (sc := defScope s__law_shape) (by decide +kernel)) (fun _ _ _ _ _ => pg_name (i := 5) sc__law_shape.nd rfl (Or.inl rfl)) (fun _ _ _ _ _ => (pts_one (pt_cmpR op_eq (pe_call G_law_draw (hr.mono (by decide)) (by rfl) T.m_law_draw T.k_law_draw b_law_draw .nil pass0 (pa_cons (pv 0) (pa_cons pe_int pa_nil))) pe_int (nomark _)))) (fun _ _ _ _ _ => (pv 5)))
      (pss_one (ps_ret (pe_tup (pa_cons (pv 1) (pa_cons (pv 4) (pa_cons (pe_ifExp (pt_cmpR (op_neD hr.units) (pv 6) (pe_lst pa_nil) (nomark _)) (pv 6) (pe_lst (pa_cons (pe_call G_law_draw (hr.mono (by decide)) (by rfl) T.m_law_draw T.k_law_draw b_law_draw .nil pass0 (pa_cons (pv 0) (pa_cons (pv 3) pa_nil))) pa_nil))) pa_nil))))))))), ?_⟩
    have hLz : (TL.tl z).length ≤ 3 := by rw [← TL.len_tl]; exact hz
    refine ⟨_, rfl, _, rfl, p, c, _, n, rfl, hp, by omega, by omega, by omega, fun d H1 d0 d1 hp1 k1 => ⟨_, _, rfl, rfl, by show 0 ≤ sizeLine; decide, fun R hR => ⟨by show 2 ≤ sizeLine; decide, fun tt htt => ?_⟩⟩⟩
    obtain ⟨nRp, nRc⟩ := hp1.new hR
    have s2 : Same H1 (L2.upd (L2.upd H1 R (.lst [])) tt (.tup [.int (1 + d), .ref R])) := (same_new hR).trans (same_new htt)
    have hR2 : (L2.upd (L2.upd H1 R (.lst [])) tt (.tup [.int (1 + d), .ref R])) R = some (.lst []) := same_new htt _ _ upd_same
    have ht2 : (L2.upd (L2.upd H1 R (.lst [])) tt (.tup [.int (1 + d), .ref R])) tt = some (.tup [.int (1 + d), .ref R]) := upd_same
    have hp2 := hp1.same s2
    have k2 : Kp p H1 (L2.upd (L2.upd H1 R (.lst [])) tt (.tup [.int (1 + d), .ref R])) := Kp.of s2
    refine ⟨tt, _, rfl, SqT.of ht2, rfl, _, _, rfl, _, _, rfl, rfl, ?_⟩
    change tSeq _ _ _ _ (L2.upd (L2.upd H1 R (.lst [])) tt (.tup [.int (1 + d), .ref R]))
    generalize L2.upd (L2.upd H1 R (.lst [])) tt (.tup [.int (1 + d), .ref R]) = H2 at hR2 hp2 k2 ⊢
    have hd8 : (1 + d).toNat ≤ 8 := by omega
    refine ⟨_, rfl, 1 + d, rfl, by omega, by omega, for_range (n := (1 + d).toNat) (fun i σ H3 => ∃ (v5 v6 v7 : Option V) (rs : List Addr) (gs : List (List Int)), σ = [some (.ref p), some (.str z), some (.int most), some (.int (1 + d)), some (.ref R), v5, v6, v7] ∧
      H3 R = some (.lst (rs.map V.ref)) ∧ Forall2 (fun (r : Addr) (row : List Int) => H3 r = some (.lst (row.map V.int))) rs gs ∧ (∀ r ∈ rs, r ≠ R) ∧ gs.length = i ∧ (∀ row ∈ gs, row.length = z.length ∧ ∀ g ∈ row, 0 ≤ g ∧ g < 1 + d) ∧ Pen H3 p c (n + 1 + i * 3) ∧ Kp p H1 H3)
      ⟨none, none, none, [], [], rfl, hR2, ⟨rfl, fun i x y e1 e2 => nomatch e1⟩, (fun r hr => nomatch hr), rfl, (fun r hr => nomatch hr), hp2, k2⟩ ?_ ?_⟩
    · rintro i σ H3 hi ⟨v5, v6, v7, rs, gs, rfl, hR3, hrs, hne, hgl, hrow, hp3, k3⟩
      refine ⟨_, rfl, Or.inl ⟨rfl, _, SqL.of hR3⟩, _, rfl, z, rfl, fun D hD => lc_it walk_strS (fun j H4 => ∃ row : List Int, H4 D = some (.lst (row.map V.int)) ∧ row.length = j ∧ (∀ g ∈ row, 0 ≤ g ∧ g < 1 + d) ∧ Pen H4 p c (n + 1 + i * 3 + j) ∧ Kp p H3 H4) ⟨[], upd_same, rfl, (fun r hr => nomatch hr), hp3.same (same_new hD), Kp.of (same_new hD)⟩ (fun _ _ _ _ => trivial) ?_ ?_⟩
      · rintro j x H4' H4 hj ⟨row, hD4, hrl, hrg, hp4, k4⟩ ⟨rfl, cc, hcc, rfl⟩
        obtain ⟨nDp, nDc⟩ := hp3.new hD
        have hj3 : j < 3 := by
          have := (List.getElem?_eq_some_iff.mp hcc).1
          omega
        refine ⟨rfl, ?_⟩
        refine lcYes ?_
        refine ⟨_, rfl, _, rfl, p, c, 1 + d, _, rfl, hp4, by omega, by omega, by omega, fun g H5 g0 g1 hp5 k5 => ?_⟩
        have hD5 := k5 _ _ hD4 nDp
        refine ⟨_, hD5, ?_, row ++ [g], ?_, ?_, fun x hx => ?_, ?_, (k4.trans k5).put hD⟩
        · rw [List.length_map]; exact small1000 (by omega)
        · rw [upd_same, List.map_append, List.map_singleton]
        · rw [List.length_append, hrl]; rfl
        · rcases List.mem_append.mp hx with q | q
          · exact hrg x q
          · rw [List.mem_singleton.mp q]; exact ⟨g0, g1⟩
        · exact (hp5.put nDp nDc).mono (by omega)
      · rintro H4 ⟨row, hD4, hrl, hrg, hp4, k4⟩
        have hR4 := k4 _ _ hR3 nRp
        obtain ⟨kv3, hd3⟩ := hp3.dk
        have nDR : D ≠ R := (ne_of_none hR3 hD).symm
        have hrs4 : Forall2 (fun (q : Addr) (row : List Int) => (L2.upd H4 R (.lst (rs.map V.ref ++ [.ref D]))) q = some (.lst (row.map V.int))) rs gs := ⟨hrs.1, fun i x y e1 e2 => by
          have h3 := hrs.2 i x y e1 e2
          show (L2.upd H4 R _) x = _
          rw [upd_ne (hne x (List.mem_of_getElem? e1))]
          exact k4 _ _ h3 (L2.ne_of h3 hd3 (fun z => nomatch z))⟩
        refine ⟨R, _, _, rfl, rfl, hR4, small1000 (by rw [List.length_map, hrs.1]; omega), _, _, _, rs ++ [D], gs ++ [row], rfl, by rw [upd_same, List.map_append]; rfl, hrs4.snoc (by rw [upd_ne nDR]; exact hD4), fun q hq => ?_, by rw [List.length_append, hgl]; rfl, fun x hx => ?_, (hp4.put nRp nRc).mono (by rw [← TL.len_tl] at hLz; omega), (k3.trans k4).put hR⟩
        · rcases List.mem_append.mp hq with h | h
          · exact hne q h
          · rw [List.mem_singleton.mp h]; exact nDR
        · rcases List.mem_append.mp hx with h | h
          · exact hrow x h
          · rw [List.mem_singleton.mp h]
            exact ⟨hrl, hrg⟩
    · rintro σ H3 ⟨v5, v6, v7, rs, gs, rfl, hR3, hrs, hne, hgl, hrow, hp3, k3⟩
      have hgn : GoodRows z.length gs := ⟨fun j hj hb => by
        obtain ⟨h1, h2⟩ := hrow _ (List.getElem_mem hj)
        rcases hb with h | ⟨g, hg, h⟩
        · exact h h1
        · have := h2 g hg
          exact h (by omega), by omega⟩
      obtain ⟨kv3, hd3⟩ := hp3.dk
      refine ⟨_, rfl, 1 + d, rfl, by omega, by omega, fun D hD => lc_range (lo := 0) (n := (1 + d).toNat) (fun j H4 => ∃ es : List Int, H4 D = some (.lst (es.map V.int)) ∧ (∀ e ∈ es, 0 ≤ e ∧ e < j) ∧ es.length ≤ j ∧ Pen H4 p c (n + 1 + (1 + d).toNat * 3 + j) ∧ Kp p H3 H4) ⟨[], upd_same, (fun r hr => nomatch hr), Nat.le_refl _, hp3.same (same_new hD), Kp.of (same_new hD)⟩ ?_ ?_⟩
      · rintro j H4 hj ⟨es, hD4, hes, hel, hp4, k4⟩
        obtain ⟨nDp, nDc⟩ := hp3.new hD
        refine ⟨rfl, ?_⟩
        refine ⟨_, rfl, p, c, 2, _, rfl, hp4, by omega, by decide, by decide, fun g H5 g0 g1 hp5 k5 => ⟨rfl, _, rfl, ?_⟩⟩
        have hD5 := k5 _ _ hD4 nDp
        refine ite2 (fun c1 => ?_) (fun c1 => ?_)
        · refine ⟨_, rfl, _, hD5, ?_, es ++ [(j : Int)], ?_, fun e he => ?_, ?_, ?_, (k4.trans k5).put hD⟩
          · rw [List.length_map]; exact small1000 (by omega)
          · rw [upd_same, List.map_append, List.map_singleton, Int.zero_add]
          · rcases List.mem_append.mp he with q | q
            · have := hes e q; omega
            · rw [List.mem_singleton.mp q]; omega
          · rw [List.length_append, List.length_singleton]; omega
          · exact (hp5.put nDp nDc).mono (by omega)
        · exact ⟨es, hD5, fun e he => by have := hes e he; omega, by omega, hp5.mono (by omega), k4.trans k5⟩
      · rintro H4 ⟨es, hD4, hes, hel, hp4, k4⟩
        have hR4 := k4 _ _ hR3 nRp
        have hrs4 : Forall2 (fun (q : Addr) (row : List Int) => H4 q = some (.lst (row.map V.int))) rs gs := hrs.imp fun x y _ h => k4 _ _ h (L2.ne_of h hd3 (fun z => nomatch z))
        refine ⟨_, rfl, _, rfl, _, rfl, by show 0 ≤ sizeLine; decide, fun E1 hE1 => ⟨intsD es, intsD [], .lst (SqL.of (same_new hE1 _ _ hD4)) (dpAll_ints _ _ _), .lst (xs := []) (SqL.of upd_same) .nil, shaped_intsD _, shaped_intsD _, _, rfl, ?_⟩⟩
        have s5 : Same H4 (L2.upd H4 E1 (.lst [])) := same_new hE1
        generalize L2.upd H4 E1 (.lst []) = H5 at s5 ⊢
        rw [eqv_intsD]
        have fin : ∀ (G : Addr) (H6 : Hp) (es' : List Int), H6 G = some (.lst (es'.map V.int)) → Kp p H4 H6 → Pen H6 p c (n + 1 + (1 + d).toNat * 3 + (1 + d).toNat + 1) → (∀ e ∈ es', 0 ≤ e ∧ e < (gs.length : Nat)) → es'.length ≤ 8 → ∀ t, H6 t = none → Q (.ref t) (L2.upd H6 t (.tup [.str z, .ref R, .ref G])) := fun G H6 es' hG k6 hp6 he hl t ht => by
          obtain ⟨kv4, hd4⟩ := hp4.dk
          refine k t _ gs es' ⟨R, G, rs, upd_same, same_new ht _ _ (k6 _ _ hR4 nRp), hrs4.imp fun x y _ h => same_new ht _ _ (k6 _ _ h (L2.ne_of h hd4 (fun z => nomatch z))), same_new ht _ _ hG⟩ hgn (by omega) he hl ((hp6.same (same_new ht)).mono (by omega)) ?_
          exact (((k1.trans k3).trans k4).trans k6).trans (Kp.of (same_new ht))
        by_cases he : es = []
        · rw [show decide (es = []) = true from decide_eq_true he]
          refine ite2 (fun c => absurd c (by decide)) (fun _ => ?_)
          have hp5 := hp4.same s5
          refine ⟨_, rfl, _, rfl, p, c, 1 + d, _, rfl, hp5, by omega, by omega, by omega, fun g H6 g0 g1 hp6 k6 => ⟨by show 1 ≤ sizeLine; decide, fun G hG => ⟨by show 3 ≤ sizeLine; decide, fun t ht => ?_⟩⟩⟩
          exact fin G _ [g] upd_same (((Kp.of s5).trans k6).trans (Kp.of (same_new hG))) ((hp6.same (same_new hG)).mono (by omega)) (fun e he => by rw [List.mem_singleton.mp he]; omega) (by show 1 ≤ 8; decide) t ht
        · rw [show decide (es = []) = false from decide_eq_false he]
          refine ite2 (fun _ => ?_) (fun c => absurd rfl c)
          refine ⟨_, rfl, by show 3 ≤ sizeLine; decide, fun t ht => ?_⟩
          exact fin D H5 es (s5 _ _ hD4) (Kp.of s5) ((hp4.same s5).mono (by omega)) (fun e he => by have := hes e he; omega) (by omega) t ht
end
end Vf
set_option Elab.async false
set_option linter.all false
set_option maxRecDepth 100000
set_option maxHeartbeats 4000000
namespace Vf
open PySem L2 PyProof.Rows
open NdefX LamX
theorem nodup_le {α : Type} [DecidableEq α] : ∀ {xs ys : List α}, xs.Nodup → (∀ x ∈ xs, x ∈ ys) → xs.length ≤ ys.length
  | [], ys, _, _ => Nat.zero_le _
  | x :: xs, ys, hn, hs => by
    have hx := hs x List.mem_cons_self
    have hn' := List.nodup_cons.mp hn
    have := nodup_le (xs := xs) (ys := ys.erase x) hn'.2 fun y hy => (List.mem_erase_of_ne (fun e => hn'.1 (by rw [← e]; exact hy))).mpr (hs y (List.mem_cons_of_mem _ hy))
    rw [List.length_erase_of_mem hx] at this
    have hp : 0 < ys.length := List.length_pos_of_mem hx
    rw [List.length_cons]
    omega
theorem cup_nat (l : Str) (m c : Nat) : ∃ n : Nat, cup l m c = n ∧ n ≤ m + 1 := by
  unfold cup
  split
  · exact ⟨m + 1, by omega, Nat.le_refl _⟩
  · exact ⟨m, rfl, by omega⟩
def dmM (s : LSort) (L : List Nat) (k : List Key) : Prop := match s with
  | .every => k = [.inr "all"]
  | .rising => k = lostK ∨ ∃ d ∈ L, k = [.inr (sg d)]
  | .changes n => k = lostK ∨ k = [.inr "", .inl 0] ∨ ∃ d ∈ L, ∃ m : Nat, m ≤ n ∧ k = [.inr (sg d), .inl (m : Int)]
theorem dmM_st (s : LSort) (L : List Nat) : ∀ k c, dmM s L k → c ∈ L → dmM s L (lstM s k c) := by
  intro k c hk hc
  cases s with
  | every => exact hk
  | rising =>
    rcases hk with rfl | ⟨d, hd, rfl⟩
    · show dmM .rising L (lstR [.inr "lost"] c)
      rw [lstR_eq, if_pos rfl]
      exact Or.inl rfl
    · show dmM .rising L (lstR [.inr (sg d)] c)
      rw [lstR_eq, if_neg (sg_lost d)]
      split
      · exact Or.inl rfl
      · exact Or.inr ⟨c, hc, rfl⟩
  | changes n =>
    have key : ∀ (l : Str) (m : Nat), dmM (.changes n) L (lstC n [.inr l, .inl (m : Int)] c) := fun l m => by
      rw [lstC_eq]
      obtain ⟨q, e, _⟩ := cup_nat l m c
      rw [e]
      split
      · exact Or.inr (Or.inr ⟨c, hc, q, by omega, rfl⟩)
      · exact Or.inl rfl
    rcases hk with rfl | rfl | ⟨d, hd, m, hm, rfl⟩
    · exact Or.inl rfl
    · exact key "" 0
    · exact key (sg d) m
theorem mach_len {s : LSort} {L : List Nat} {c0 b : Nat} (h3 : L.length ≤ 3) (hs : s.le b) (hc : c0 ∈ L) (N : Nat) : (mach N s L c0).1.length ≤ 2 + 3 * (b + 1) := by
  have h0 : dmM s L (muM s c0 []) := by
    cases s with
    | every => rfl
    | rising => exact Or.inr ⟨c0, hc, rfl⟩
    | changes n => exact Or.inr (Or.inl rfl)
  have hd : ∀ k ∈ (mach N s L c0).1, dmM s L k := turns_dm (lstM s) L (muM s c0 []) h0 (dmM_st s L) N
  have hn : (mach N s L c0).1.Nodup := turns_nodup (lstM s) L (muM s c0 []) N
  generalize (mach N s L c0).1 = ks at hd hn
  cases s with
  | every =>
    have := nodup_le (ys := [[.inr "all"]]) hn fun k hk => by
      have h1 : k = [.inr "all"] := hd k hk
      rw [h1]; exact List.mem_cons_self
    have : ks.length ≤ 1 := this
    omega
  | rising =>
    have := nodup_le (ys := lostK :: L.map fun d => [.inr (sg d)]) hn fun k hk => by
      rcases hd k hk with rfl | ⟨d, hdL, rfl⟩
      · exact List.mem_cons_self
      · exact List.mem_cons_of_mem _ (List.mem_map.mpr ⟨d, hdL, rfl⟩)
    rw [List.length_cons, List.length_map] at this
    omega
  | changes n =>
    have hn5 : n ≤ b := hs
    have := nodup_le (ys := lostK :: [.inr "", .inl 0] :: L.flatMap fun d => (List.range (n + 1)).map fun (m : Nat) => ([.inr (sg d), .inl (m : Int)] : List Key)) hn fun k hk => by
      rcases hd k hk with rfl | rfl | ⟨d, hdL, m, hm, rfl⟩
      · exact List.mem_cons_self
      · exact List.mem_cons_of_mem _ List.mem_cons_self
      · exact List.mem_cons_of_mem _ (List.mem_cons_of_mem _ (List.mem_flatMap.mpr ⟨d, hdL, List.mem_map.mpr ⟨m, List.mem_range.mpr (by omega), rfl⟩⟩))
    rw [List.length_cons, List.length_cons, List.length_flatMap] at this
    have e : ∀ L : List Nat, (L.map fun d => ((List.range (n + 1)).map fun (m : Nat) => ([.inr (sg d), .inl (m : Int)] : List Key)).length).sum = L.length * (n + 1) := fun L => by
      induction L with
      | nil => simp
      | cons a r ih => rw [List.map_cons, List.sum_cons, ih, List.length_map, List.length_range, List.length_cons, Nat.succ_mul]; omega
    rw [e] at this
    have h2 : L.length * (n + 1) ≤ 3 * (b + 1) := Nat.mul_le_mul h3 (by omega)
    omega
structure TxtSo (K : PySem.W.Frag) (mg : Str → Option Value) (fMa fSo fSh : Addr) : Prop where
  m_law_machine : mg "_law_machine" = some (.ref fMa)
  k_law_machine : PySem.W.keepIn K (.ref fMa) = true
  m_law_sort : mg "_law_sort" = some (.ref fSo)
  k_law_sort : PySem.W.keepIn K (.ref fSo) = true
  m_law_shape : mg "_law_shape" = some (.ref fSh)
  k_law_shape : PySem.W.keepIn K (.ref fSh) = true
structure TxtSom (K : PySem.W.Frag) (mg : Str → Option Value) (fD fP fMa fSo fSh : Addr) : Prop extends TxtP K mg fD fP, TxtSo K mg fMa fSo fSh
section
variable {P : Program} {w : World} {K : PySem.W.Frag} {mg : Str → Option Value} {base : Heap}
def spSome : Sp := fun vs H Q _ => ∃ (p c : Addr) (z : Str) (c0 : Nat) (r : List Nat) (n : Nat), vs = [.ref p, .str z] ∧ Pen H p c n ∧ n ≤ 2 ^ 28 ∧ TL.tl z = c0 :: r ∧ z.length ≤ 3 ∧ (∀ d ∈ TL.tl z, c0 ≤ d) ∧ (∀ d ∈ TL.tl z, d < 200) ∧
  ∀ (t : Addr) (H' : Hp) (gs : List (List Int)) (es : List Int), ShD H' t z gs es → GoodRows z.length gs → gs.length ≤ 11 → (∀ e ∈ es, 0 ≤ e ∧ e < (gs.length : Nat)) → es.length ≤ 11 → Pen H' p c (n + 200) → Kp p H H' → Q (.ref t) H'
abbrev s__law_some_shape : Stmt := top 35
abbrev N__law_some_shape : List Str := ["_law_pen_here", "_law_letters_here"]
abbrev P__law_some_shape : List Str := ["_law_pen_here", "_law_letters_here"]
theorem sc__law_some_shape : FnScope N__law_some_shape P__law_some_shape (defScope s__law_some_shape) := ⟨rfl, rfl, rfl, by decide +kernel, rfl, by decide +kernel, by decide +kernel⟩

theorem ok_some {f fD fP fMa fSo fSh : Addr} {fd fdD fdP fdMa fdSo fdSh : FuncData} (F : Fun K "_law_some_shape" "_law_some_shape" s__law_some_shape f fd) (T : TxtSom K mg fD fP fMa fSo fSh) (FD : Fun K "_law_draw" "_law_draw" s__law_draw fD fdD) (b_law_draw : Binds K fdD P__law_draw [])
    (FP : Fun K "_law_pick" "_law_pick" s__law_pick fP fdP) (b_law_pick : Binds K fdP P__law_pick []) (G_law_machine : FnOk P w K mg base CX0 2 fMa fdMa P__law_machine (spMach K)) (b_law_machine : Binds K fdMa P__law_machine [])
    (FSo : Fun K "_law_sort" "_law_sort" s__law_sort fSo fdSo) (b_law_sort : Binds K fdSo P__law_sort []) (FSh : Fun K "_law_shape" "_law_shape" s__law_shape fSh fdSh) (b_law_shape : Binds K fdSh P__law_shape []) : FnOk P w K mg base CX0 4 f fd P__law_some_shape spSome := by
  have G_law_draw : FnOk P w K mg base CX0 1 fD fdD P__law_draw spDraw := ok_draw FD T.toTxtA
  have G_law_pick : FnOk P w K mg base CX0 2 fP fdP P__law_pick (spPickL K) := ok_pickL FP T.toTxtD FD b_law_draw
  have G_law_sort : FnOk P w K mg base CX0 3 fSo fdSo P__law_sort (spSort K) := ok_sort FSo T.toTxtP FD b_law_draw FP b_law_pick
  have G_law_shape : FnOk P w K mg base CX0 2 fSh fdSh P__law_shape spShape := ok_shape FSh T.toTxtD FD b_law_draw
  refine F.ok sc__law_some_shape (fun vs H Q E h => ?_) (fun cdv A outer s H vs Q E hr h => ?_)
  · obtain ⟨p, c, z, c0, r, n, rfl, _⟩ := h
    rfl
  · obtain ⟨p, c, z, c0, r, n, rfl, hp, hn, hz0, hz, h0, h200, k⟩ := h
    have hu := hu_of hr
    refine ⟨_, (pss_cons (ps_if (pt_cmpR op_eq (pe_call G_law_draw (hr.mono (by decide)) (by rfl) T.m_law_draw T.k_law_draw b_law_draw .nil pass0 (pa_cons (pv 0) (pa_cons pe_int pa_nil))) pe_int (nomark _)) (pss_one (ps_ret (pe_call G_law_machine (hr.mono (by decide)) (by rfl) T.m_law_machine T.k_law_machine b_law_machine .nil pass0 (pa_cons (pv 1) (pa_cons (pe_call G_law_sort (hr.mono (by decide)) (by rfl) T.m_law_sort T.k_law_sort b_law_sort .nil pass0 (pa_cons (pv 0) (pa_cons pe_int pa_nil))) pa_nil))))) pss_nil)
      (pss_one (ps_ret (pe_call G_law_shape (hr.mono (by decide)) (by rfl) T.m_law_shape T.k_law_shape b_law_shape .nil pass0 (pa_cons (pv 0) (pa_cons (pv 1) (pa_cons (pe_call G_law_pick (hr.mono (by decide)) (by rfl) T.m_law_pick T.k_law_pick b_law_pick .nil pass0 (pa_cons (pv 0) (pa_cons (pe_lst (pa_cons pe_int (pa_cons pe_int (pa_cons pe_int pa_nil)))) pa_nil))) pa_nil))))))), ?_⟩
    have hL3 : (TL.tl z).length ≤ 3 := by rw [← TL.len_tl]; exact hz
    have hc0 : c0 ∈ TL.tl z := by rw [hz0]; exact List.mem_cons_self
    refine ⟨_, rfl, p, c, 3, n, rfl, hp, by omega, by decide, by decide, fun d H1 d0 d1 hp1 k1 => ⟨rfl, _, rfl, ite2 (fun c1 => ?_) (fun c1 => ?_)⟩⟩
    · refine ⟨_, rfl, _, rfl, p, c, 2, _, rfl, hp1, by omega, by decide, fun v so H2 hso hle hp2 k2 => ?_⟩
      have h11 := mach_len hL3 hle hc0 40
      have h40 : (mach 40 so (TL.tl z) c0).1.length ≤ 40 := Nat.le_trans h11 (by decide)
      have hgl := goodFrom_len keepL (mach 40 so (TL.tl z) c0).1 0
      have hge := goodFrom_ge keepL (mach 40 so (TL.tl z) c0).1 0
      have hlr : (mach 40 so (TL.tl z) c0).2.length = (mach 40 so (TL.tl z) c0).1.length := turns_done (lstM so) (TL.tl z) (muM so c0 []) h40
      have hall : ∀ row ∈ (mach 40 so (TL.tl z) c0).2, row.length = (TL.tl z).length ∧ ∀ x ∈ row, x < (mach 40 so (TL.tl z) c0).1.length := turns_all (lstM so) (TL.tl z) (muM so c0 []) 40
      have hpos : 0 < (mach 40 so (TL.tl z) c0).1.length := Nat.lt_of_lt_of_le (Nat.zero_lt_one) (turns_pre (lstM so) (TL.tl z) (muM so c0 []) (Nat.zero_le 40)).length_le
      refine ⟨v, so, z, c0, r, rfl, hso, hz0, hz, h0, h200, h40, fun t H3 s3 hM => ?_⟩
      generalize goodFrom keepL 0 (mach 40 so (TL.tl z) c0).1 = es at hM hgl hge
      generalize (mach 40 so (TL.tl z) c0).1.length = lk at h40 h11 hgl hge hlr hall hpos
      generalize (mach 40 so (TL.tl z) c0).2 = rows at hM hlr hall
      have hgsl : (goals rows).length = rows.length := List.length_map ..
      refine k t H3 (goals rows) es (ShD.of hM) (goodRows_of hlr hpos (by rw [TL.len_tl]; exact hall)) (by omega) (fun e he => by have := hge e he; omega) (by omega) ((hp2.same s3).mono (by omega)) ((k1.trans k2).trans (Kp.of s3))
    · refine ⟨_, rfl, _, rfl, _, rfl, by show 3 ≤ sizeLine; decide, fun l hl => ?_⟩
      have hp2 := hp1.same (same_new (o := .lst [.int 3, .int 5, .int 8]) hl)
      have kl : Kp p H1 (L2.upd H1 l (.lst [.int 3, .int 5, .int 8])) := Kp.of (same_new hl)
      refine ⟨p, c, l, [.int 3, .int 5, .int 8], _, rfl, hp2, by omega, SqL.of upd_same, (by show 0 < 3; decide), (by show 3 ≤ 1000; decide), fun j v H3 hj hp3 k3 => ?_⟩
      obtain ⟨most, rfl, hm1, hm8⟩ : ∃ most : Nat, v = .int most ∧ 1 ≤ most ∧ most ≤ 8 := by
        match j, hj with
        | 0, hj => exact ⟨3, (Option.some.inj hj).symm, by decide, by decide⟩
        | 1, hj => exact ⟨5, (Option.some.inj hj).symm, by decide, by decide⟩
        | 2, hj => exact ⟨8, (Option.some.inj hj).symm, by decide, by decide⟩
        | j + 3, hj => exact nomatch hj
      refine ⟨p, c, z, most, _, rfl, hp3, by omega, hm1, hm8, hz, fun t H4 gs es hS hg hl he hel hp4 k4 => ?_⟩
      exact k t H4 gs es hS hg (by omega) he (by omega) (hp4.mono (by omega)) (((k1.trans kl).trans k3).trans k4)
end
end Vf
set_option Elab.async false
set_option linter.all false
set_option maxRecDepth 100000
set_option maxHeartbeats 4000000
namespace Vf
open PySem L2 PyProof.Rows
open NdefX LamX
structure OP (H : Hp) (F R : Addr) (H1 : Hp) (ks : List (List Key)) (as : List V) (rows : List (List Nat)) (rs : List Addr) : Prop where
  fnd : H1 F = some (.lst as)
  rws : H1 R = some (.lst (rs.map V.ref))
  at_ : Forall2 (kdT.at_ H1) as ks
  row : Forall2 (fun (r : Addr) (row : List Nat) => H1 r = some (.lst (row.map fun (n : Nat) => V.int (n : Int)))) rs rows
  ne : ∀ r ∈ rs, r ≠ F ∧ r ≠ R
  same : Same H H1
theorem OP.sm {H H1 H2 : Hp} {F R : Addr} {ks : List (List Key)} {as : List V} {rows : List (List Nat)} {rs : List Addr} (W : OP H F R H1 ks as rows rs) (s : Same H1 H2) : OP H F R H2 ks as rows rs :=
  ⟨s _ _ W.fnd, s _ _ W.rws, W.at_.imp fun x y _ h => kdT.keep h fun b xs e => s _ _ e, W.row.imp fun x y _ h => s _ _ h, W.ne, W.same.trans s⟩
theorem OP.add {H H1 : Hp} {F R : Addr} {ks : List (List Key)} {as : List V} {rows : List (List Nat)} {rs : List Addr} (W : OP H F R H1 ks as rows rs) (nR : R ≠ F) (hF : H F = none) {a : V} {k : List Key} (ha : kdT.at_ H1 a k) : OP H F R (L2.upd H1 F (.lst (as ++ [a]))) (ks ++ [k]) (as ++ [a]) rows rs := by
  have t1 : ∀ b xs, H1 b = some (.tup xs) → L2.upd H1 F (.lst (as ++ [a])) b = some (.tup xs) := fun b xs e => by
    rw [upd_ne (L2.ne_of e W.fnd (fun z => nomatch z))]
    exact e
  refine ⟨upd_same, by rw [upd_ne nR]; exact W.rws, (W.at_.imp fun x y _ h => kdT.keep h t1).snoc (kdT.keep ha t1), ⟨W.row.1, fun i x y e1 e2 => ?_⟩, W.ne, W.same.put hF⟩
  show (L2.upd H1 F _) x = _
  rw [upd_ne (W.ne x (List.mem_of_getElem? e1)).1]
  exact W.row.2 i x y e1 e2
theorem OP.putr {H H1 : Hp} {F R : Addr} {ks : List (List Key)} {as : List V} {rows : List (List Nat)} {rs : List Addr} (W : OP H F R H1 ks as rows rs) {r : Addr} {qs qs' : List V} (hr : H1 r = some (.lst qs)) (n1 : r ≠ F) (n3 : r ≠ R) (hf : ∀ q ∈ rs, q ≠ r) (h0 : H r = none) : OP H F R (L2.upd H1 r (.lst qs')) ks as rows rs := by
  refine ⟨by rw [upd_ne n1.symm]; exact W.fnd, by rw [upd_ne n3.symm]; exact W.rws, W.at_.imp fun x y _ h => kdT.keep h fun b xs e => ?_, ⟨W.row.1, fun i x y e1 e2 => ?_⟩, W.ne, W.same.put h0⟩
  · rw [upd_ne (L2.ne_of e hr (fun z => nomatch z))]
    exact e
  · show (L2.upd H1 r _) x = _
    rw [upd_ne (hf x (List.mem_of_getElem? e1))]
    exact W.row.2 i x y e1 e2
theorem OP.addr {H H1 : Hp} {F R : Addr} {ks : List (List Key)} {as : List V} {rows : List (List Nat)} {rs : List Addr} (W : OP H F R H1 ks as rows rs) (nR : R ≠ F) (hR : H R = none) {r : Addr} {row : List Nat} (hr : H1 r = some (.lst (row.map fun (n : Nat) => V.int (n : Int)))) (n1 : r ≠ F) (n3 : r ≠ R) : OP H F R (L2.upd H1 R (.lst (rs.map V.ref ++ [.ref r]))) ks as (rows ++ [row]) (rs ++ [r]) := by
  refine ⟨by rw [upd_ne nR.symm]; exact W.fnd, by rw [upd_same, List.map_append]; rfl, W.at_.imp fun x y _ h => kdT.keep h fun b xs e => ?_, ?_, fun q hq => ?_, W.same.put hR⟩
  · rw [upd_ne (L2.ne_of e W.rws (fun z => nomatch z))]
    exact e
  · have h1 : Forall2 (fun (q : Addr) (row : List Nat) => (L2.upd H1 R (.lst (rs.map V.ref ++ [.ref r]))) q = some (.lst (row.map fun (n : Nat) => V.int (n : Int)))) rs rows := ⟨W.row.1, fun i x y e1 e2 => by
      show (L2.upd H1 R _) x = _
      rw [upd_ne (W.ne x (List.mem_of_getElem? e1)).2]
      exact W.row.2 i x y e1 e2⟩
    exact h1.snoc (by rw [upd_ne n3]; exact hr)
  · rcases List.mem_append.mp hq with h | h
    · exact W.ne q h
    · rw [List.mem_singleton.mp h]; exact ⟨n1, n3⟩
/-- all pairs of states -/
theorem pairs_len {g1 g2 : List (List Int)} {z : Str} (h1 : GoodRows z.length g1) (h2 : GoodRows z.length g2) (N : Nat) : (turns (pst g1 g2 (TL.tl z)) (TL.tl z) [Sum.inl 0, Sum.inl 0] N).1.length ≤ g1.length * g2.length := by
  have hd := turns_dm (Dm := pDm g1 g2) (pst g1 g2 (TL.tl z)) (TL.tl z) [Sum.inl 0, Sum.inl 0] ⟨0, 0, Int.le_refl _, by have := h1.2; omega, Int.le_refl _, by have := h2.2; omega, rfl⟩ (pst_dm h1 h2) N
  have hn := turns_nodup (pst g1 g2 (TL.tl z)) (TL.tl z) [Sum.inl 0, Sum.inl 0] N
  generalize (turns (pst g1 g2 (TL.tl z)) (TL.tl z) [Sum.inl 0, Sum.inl 0] N).1 = ks at hd hn
  have := nodup_le (ys := (List.range g1.length).flatMap fun (a : Nat) => (List.range g2.length).map fun (b : Nat) => ([.inl (a : Int), .inl (b : Int)] : List Key)) hn fun k hk => by
    obtain ⟨a, b, a0, a1, b0, b1, rfl⟩ := hd k hk
    refine List.mem_flatMap.mpr ⟨a.toNat, List.mem_range.mpr (by omega), List.mem_map.mpr ⟨b.toNat, List.mem_range.mpr (by omega), ?_⟩⟩
    rw [Int.toNat_of_nonneg a0, Int.toNat_of_nonneg b0]
  rw [List.length_flatMap] at this
  have e : ∀ L : List Nat, (L.map fun (a : Nat) => ((List.range g2.length).map fun (b : Nat) => ([.inl (a : Int), .inl (b : Int)] : List Key)).length).sum = L.length * g2.length := fun L => by
    induction L with
    | nil => simp
    | cons a r ih => rw [List.map_cons, List.sum_cons, ih, List.length_map, List.length_range, List.length_cons, Nat.succ_mul]; omega
  rw [e, List.length_range] at this
  exact this
def PairsAt (H : Hp) (t : Addr) (ks : List (List Key)) (rows : List (List Nat)) : Prop := ∃ (F R : Addr) (as : List V) (rs : List Addr), H t = some (.tup [.ref R, .ref F]) ∧ H F = some (.lst as) ∧ Forall2 (kdT.at_ H) as ks ∧ H R = some (.lst (rs.map V.ref)) ∧ Forall2 (fun (r : Addr) (row : List Nat) => H r = some (.lst (row.map fun (n : Nat) => V.int (n : Int)))) rs rows
structure TxtPa (mg : Str → Option Value) : Prop where
  range : mg "range" = none
  len : mg "len" = none
section
variable {P : Program} {w : World} {K : PySem.W.Frag} {mg : Str → Option Value} {base : Heap}
def spPairs : Sp := fun vs H Q _ => ∃ (t1 t2 : Addr) (z : Str) (g1 g2 : List (List Int)) (e1 e2 : List Int), vs = [.ref t1, .ref t2] ∧ ShD H t1 z g1 e1 ∧ ShD H t2 z g2 e2 ∧ GoodRows z.length g1 ∧ GoodRows z.length g2 ∧ g1.length ≤ 11 ∧ g2.length ≤ 11 ∧ z.length ≤ 3 ∧ (TL.tl z).Nodup ∧
  ∀ t H', Same H H' → PairsAt H' t (turns (pst g1 g2 (TL.tl z)) (TL.tl z) [Sum.inl 0, Sum.inl 0] 500).1 (turns (pst g1 g2 (TL.tl z)) (TL.tl z) [Sum.inl 0, Sum.inl 0] 500).2 → Q (.ref t) H'
abbrev s__law_pairs : Stmt := top 36
abbrev N__law_pairs : List Str := ["_law_one", "_law_other", "_law_found", "_law_rows", "_law_turn", "_law_row", "_law_p", "_law_q", "_law_at", "_law_pair"]
abbrev P__law_pairs : List Str := ["_law_one", "_law_other"]
theorem sc__law_pairs : FnScope N__law_pairs P__law_pairs (defScope s__law_pairs) := ⟨rfl, rfl, rfl, by decide +kernel, rfl, by decide +kernel, by decide +kernel⟩

theorem ok_pairs {f : Addr} {fd : FuncData} (F : Fun K "_law_pairs" "_law_pairs" s__law_pairs f fd) (T : TxtPa mg) : FnOk P w K mg base CX0 1 f fd P__law_pairs spPairs := by
  refine F.ok sc__law_pairs (fun vs H Q E h => ?_) (fun cdv A outer s H vs Q E hr h => ?_)
  · obtain ⟨t1, t2, z, g1, g2, e1, e2, rfl, _⟩ := h
    rfl
  · obtain ⟨t1, t2, z, g1, g2, e1, e2, rfl, hA, hB, h1, h2, l1, l2, hz, hnd, k⟩ := h
    have hu := hu_of hr
    refine ⟨_, (pss_cons (ps_par (i := 2) (j := 3) (by rfl) sc__law_pairs.nd rfl rfl (by decide) rfl rfl (pa_cons (pe_lst (pa_cons (pe_tup (pa_cons pe_int (pa_cons pe_int pa_nil))) pa_nil)) (pa_cons (pe_lst pa_nil) pa_nil)) (by rfl))
      (pss_cons (ps_for PassesOwn.never rfl (pi_range1 (by rfl) T.range (pa_cons pe_int pa_nil)) (pg_name (i := 4) sc__law_pairs.nd rfl (Or.inl rfl)) (pss_cons (ps_if (pt_cmpR op_ge (pv 4) (pe_callB call_len (by rfl) T.len PySem.boot_len (pa_cons (pv 2) pa_nil)) (nomark _)) (pss_one (ps_ret (pe_tup (pa_cons (pv 3) (pa_cons (pv 2) pa_nil))))) pss_nil)
      (pss_cons (ps_asg (pe_tup (pa_cons (pe_lst pa_nil) (pa_cons (pe_ix ix_list (pv 2) (pv 4) (fun _ _ => rfl)) pa_nil))) (pg_tup (by rfl) (pgs_cons (pg_name (i := 5) sc__law_pairs.nd rfl (Or.inl rfl)) (pgs_cons (pg_tup (by rfl) (pgs_cons (pg_name (i := 6) sc__law_pairs.nd rfl (Or.inl rfl)) (pgs_cons (pg_name (i := 7) sc__law_pairs.nd rfl (Or.inl rfl)) pgs_nil))) pgs_nil))))
      (pss_cons (ps_for PassesOwn.never rfl (pi_range1 (by rfl) T.range (pa_cons (pe_callB call_len (by rfl) T.len PySem.boot_len (pa_cons (pe_ix ix_tup (pv 0) pe_int (fun _ _ => rfl)) pa_nil)) pa_nil)) (pg_name (i := 8) sc__law_pairs.nd rfl (Or.inl rfl)) (pss_cons (ps_set (i := 9) sc__law_pairs.nd rfl (Or.inl rfl) (pe_tup (pa_cons (pe_ix ix_list (pe_ix ix_list (pe_ix ix_tup (pv 0) pe_int (fun _ _ => rfl)) (pv 6) (fun _ _ => rfl)) (pv 8) (fun _ _ => rfl)) (pa_cons (pe_ix ix_list (pe_ix ix_list (pe_ix ix_tup (pv 1) pe_int (fun _ _ => rfl)) (pv 7) (fun _ _ => rfl)) (pv 8) (fun _ _ => rfl)) pa_nil))))
      (pss_cons (ps_if (pt_cmpR (op_notInD (hu65 hr)) (pv 9) (pv 2) (by rfl)) (pss_one (ps_expr (pe_bm PySem.F.plainAttrs_list PySem.F.slot_list_append PySem.F.type_list_append mt_append (pv 2) (pa_cons (pv 9) pa_nil)))) pss_nil)
      (pss_one (ps_expr (pe_bm PySem.F.plainAttrs_list PySem.F.slot_list_append PySem.F.type_list_append mt_append (pv 5) (pa_cons (pe_bm PySem.F.plainAttrs_list PySem.F.slot_list_index PySem.F.type_list_index (mt_indexD (hu65 hr)) (pv 2) (pa_cons (pv 9) pa_nil)) pa_nil)))))))
      (pss_one (ps_expr (pe_bm PySem.F.plainAttrs_list PySem.F.slot_list_append PySem.F.type_list_append mt_append (pv 3) (pa_cons (pv 5) pa_nil))))))))
      (pss_one (ps_ret pe_non)))), ?_⟩
    have hLz : (TL.tl z).length ≤ 3 := by rw [← TL.len_tl]; exact hz
    have hmul : g1.length * g2.length ≤ 11 * 11 := Nat.mul_le_mul l1 l2
    obtain ⟨R1, G1, rs1, ht1, hR1, hrs1, hG1⟩ := id hA
    obtain ⟨R2, G2, rs2, ht2, hR2, hrs2, hG2⟩ := id hB
    refine ⟨by show 2 ≤ sizeLine; decide, fun p0 hp0 => ⟨by show 1 ≤ sizeLine; decide, fun F hF => ⟨by show 0 ≤ sizeLine; decide, fun R hR => ⟨_, _, rfl, ?_⟩⟩⟩⟩
    have hF0 : H F = none := (same_new hp0).free hF
    have hR0 : H R = none := (same_new hp0).free ((same_new hF).free hR)
    have nRF : R ≠ F := fun q => by rw [q, upd_same] at hR; cases hR
    have W0 : OP H F R (L2.upd (L2.upd (L2.upd H p0 (.tup [.int 0, .int 0])) F (.lst [.ref p0])) R (.lst [])) [[Sum.inl 0, Sum.inl 0]] [.ref p0] [] [] := by
      refine ⟨same_new hR _ _ upd_same, upd_same, ⟨rfl, fun i x y e1 e2 => ?_⟩, ⟨rfl, fun i x y e1 e2 => nomatch e1⟩, (fun r hr => nomatch hr), ((same_new hp0).trans (same_new hF)).trans (same_new hR)⟩
      cases i with
      | zero => cases e1; cases e2; exact ⟨p0, rfl, same_new hR _ _ (same_new hF _ _ upd_same)⟩
      | succ i => cases e1
    generalize L2.upd (L2.upd (L2.upd H p0 (.tup [.int 0, .int 0])) F (.lst [.ref p0])) R (.lst []) = H0 at W0 ⊢
    clear hp0 hF hR
    refine ⟨500, rfl, by decide, by decide, for_range (n := 500) (fun n σ H1 => ∃ (as : List V) (rs : List Addr) (v4 v5 v6 v7 v8 v9 : Option V), σ = [some (.ref t1), some (.ref t2), some (.ref F), some (.ref R), v4, v5, v6, v7, v8, v9] ∧
      OP H F R H1 (turns (pst g1 g2 (TL.tl z)) (TL.tl z) [Sum.inl 0, Sum.inl 0] n).1 as (turns (pst g1 g2 (TL.tl z)) (TL.tl z) [Sum.inl 0, Sum.inl 0] n).2 rs ∧ (∀ i < n, (turns (pst g1 g2 (TL.tl z)) (TL.tl z) [Sum.inl 0, Sum.inl 0] i).2.length < (turns (pst g1 g2 (TL.tl z)) (TL.tl z) [Sum.inl 0, Sum.inl 0] i).1.length) ∧ n ≤ 121)
      ⟨[.ref p0], [], none, none, none, none, none, none, rfl, W0, fun i hi => absurd hi (Nat.not_lt_zero _), by decide⟩ ?_ ?_⟩
    · rintro n σ H1 hn500 ⟨as, rs, v4, v5, v6, v7, v8, v9, rfl, W, hlt, hn121⟩
      have hn := turns_rows (pst g1 g2 (TL.tl z)) (TL.tl z) [Sum.inl 0, Sum.inl 0] hlt
      have lk := pairs_len h1 h2 n
      have hdm := turns_dm (Dm := pDm g1 g2) (pst g1 g2 (TL.tl z)) (TL.tl z) [Sum.inl 0, Sum.inl 0] ⟨0, 0, Int.le_refl _, by have := h1.2; omega, Int.le_refl _, by have := h2.2; omega, rfl⟩ (pst_dm h1 h2) n
      generalize ep : turns (pst g1 g2 (TL.tl z)) (TL.tl z) [Sum.inl 0, Sum.inl 0] n = p at *
      obtain ⟨ks, rows⟩ := p
      dsimp only at *
      have la : as.length = ks.length := W.at_.1
      have lr : rs.length = rows.length := W.row.1
      refine ⟨_, rfl, _, rfl, _, _, rfl, Or.inl ⟨_, SqL.of W.fnd, rfl⟩, _, _, rfl, rfl, _, rfl, ite2 (fun c0' => ?_) (fun c0' => ?_)⟩
      · have c1 : ks.length ≤ n := by
          have := of_decide_eq_true c0'
          omega
        have e500 : turns (pst g1 g2 (TL.tl z)) (TL.tl z) [Sum.inl 0, Sum.inl 0] 500 = (ks, rows) := by
          rw [turns_stay (pst g1 g2 (TL.tl z)) (TL.tl z) [Sum.inl 0, Sum.inl 0] (i := n) (by rw [ep]; dsimp only; omega) 500 (by omega), ep]
        rw [e500] at k
        dsimp only at k
        refine ⟨_, rfl, _, rfl, by show 2 ≤ sizeLine; decide, fun t ht => k t _ (W.same.trans (same_new ht)) ?_⟩
        have W6 := W.sm (same_new (o := .tup [.ref R, .ref F]) ht)
        exact ⟨F, R, as, rs, upd_same, W6.fnd, W6.at_, W6.rws, W6.row⟩
      · have c1 : n < ks.length := Classical.byContradiction fun q => c0' (decide_eq_true (by omega))
        have n121 : n + 1 ≤ 121 := by omega
        obtain ⟨mm, hmm⟩ : ∃ mm, ks[n]? = some mm := ⟨_, List.getElem?_eq_getElem (by omega)⟩
        obtain ⟨va, hva⟩ : ∃ va, as[n]? = some va := ⟨_, List.getElem?_eq_getElem (by omega)⟩
        obtain ⟨a, b, a0, a1, b0, b1, rfl⟩ := hdm mm (List.mem_of_getElem? hmm)
        obtain ⟨pa, rfl, hpa⟩ := W.at_.2 n va _ hva hmm
        have hpa : H1 pa = some (.tup [.int a, .int b]) := hpa
        refine ⟨by show 0 ≤ sizeLine; decide, fun rr hrr => ?_⟩
        have W1 := W.sm (same_new (o := .lst []) hrr)
        have hrr1 : (L2.upd H1 rr (.lst [])) rr = some (.lst []) := upd_same
        have hpa1 := same_new (o := .lst []) hrr _ _ hpa
        have nrF : rr ≠ F := (ne_of_none W.fnd hrr).symm
        have nrR : rr ≠ R := (ne_of_none W.rws hrr).symm
        have hr0 : H rr = none := W.same.free hrr
        have hfr : ∀ q ∈ rs, q ≠ rr := fun q hq e => by
          subst e
          obtain ⟨i, hi, he⟩ := List.getElem_of_mem hq
          have := W.row.2 i q _ (List.getElem?_eq_some_iff.mpr ⟨hi, he⟩) (List.getElem?_eq_getElem (by omega))
          have this : H1 q = _ := this
          rw [hrr] at this; cases this
        generalize L2.upd H1 rr (.lst []) = H2 at W1 hrr1 hpa1 ⊢
        refine ⟨_, rfl, _, rfl, F, _, (0 : Int) + n, .ref pa, rfl, rfl, SqL.of W1.fnd, at_of' (show (0 : Int) + (n : Nat) = ((n : Nat) : Int) by omega) hva, by show 2 ≤ sizeLine; decide, fun tt htt => ?_⟩
        have W2 := W1.sm (same_new (o := .tup [.ref rr, .ref pa]) htt)
        have hrr2 := same_new (o := .tup [.ref rr, .ref pa]) htt _ _ hrr1
        have hpa2 := same_new (o := .tup [.ref rr, .ref pa]) htt _ _ hpa1
        refine ⟨tt, _, rfl, SqT.of upd_same, rfl, _, _, rfl, _, _, rfl, ⟨pa, _, rfl, SqT.of hpa2, rfl, _, _, rfl, _, _, rfl, rfl, ?_⟩⟩
        have s23 : Same H1 (L2.upd H2 tt (.tup [.ref rr, .ref pa])) → True := fun _ => trivial
        generalize L2.upd H2 tt (.tup [.ref rr, .ref pa]) = H3 at W2 hrr2 hpa2 ⊢
        have ht13 := W2.same _ _ ht1
        refine ⟨rfl, ?_⟩
        refine ⟨_, rfl, t1, _, 0, .str z, rfl, rfl, SqT.of ht13, rfl, _, _, rfl, ⟨small13 (by omega), rfl⟩, (z.length : Int), rfl, by omega, by omega, for_range (n := ((z.length : Nat) : Int).toNat) (fun j σ H4 => ∃ (as' : List V) (v8 v9 : Option V), σ = [some (.ref t1), some (.ref t2), some (.ref F), some (.ref R), some (.int (0 + (n : Int))), some (.ref rr), some (.int a), some (.int b), v8, v9] ∧
          OP H F R H4 (rowOf (pst g1 g2 (TL.tl z)) [Sum.inl a, Sum.inl b] ((TL.tl z).take j) (ks, [])).1 as' rows rs ∧ H4 rr = some (.lst ((rowOf (pst g1 g2 (TL.tl z)) [Sum.inl a, Sum.inl b] ((TL.tl z).take j) (ks, [])).2.map fun (n : Nat) => V.int (n : Int))) ∧ ∀ k ∈ (rowOf (pst g1 g2 (TL.tl z)) [Sum.inl a, Sum.inl b] ((TL.tl z).take j) (ks, [])).1, pDm g1 g2 k)
          ⟨as, v8, v9, rfl, W2, hrr2, hdm⟩ ?_ ?_⟩
        · rintro j σ H4 hj ⟨as', v8, v9, rfl, W4, hr4, hdq⟩
          have hpd : ∀ cc, cc ∈ TL.tl z → pDm g1 g2 (pst g1 g2 (TL.tl z) [Sum.inl a, Sum.inl b] cc) := fun cc hcc => pst_dm h1 h2 _ cc ⟨a, b, a0, a1, b0, b1, rfl⟩ hcc
          have hjL : j < (TL.tl z).length := by rw [← TL.len_tl]; omega
          obtain ⟨cc, hcc⟩ : ∃ cc, (TL.tl z)[j]? = some cc := ⟨_, List.getElem?_eq_getElem hjL⟩
          have hccm : cc ∈ TL.tl z := List.mem_of_getElem? hcc
          have hidx : (TL.tl z).idxOf cc = j := num_of hnd hcc
          have hstep : rowOf (pst g1 g2 (TL.tl z)) [Sum.inl a, Sum.inl b] ((TL.tl z).take (j + 1)) (ks, []) = (add1 (rowOf (pst g1 g2 (TL.tl z)) [Sum.inl a, Sum.inl b] ((TL.tl z).take j) (ks, [])).1 (pst g1 g2 (TL.tl z) [Sum.inl a, Sum.inl b] cc), (rowOf (pst g1 g2 (TL.tl z)) [Sum.inl a, Sum.inl b] ((TL.tl z).take j) (ks, [])).2 ++ [num (add1 (rowOf (pst g1 g2 (TL.tl z)) [Sum.inl a, Sum.inl b] ((TL.tl z).take j) (ks, [])).1 (pst g1 g2 (TL.tl z) [Sum.inl a, Sum.inl b] cc)) (pst g1 g2 (TL.tl z) [Sum.inl a, Sum.inl b] cc)]) := by
            rw [List.take_add_one, hcc]
            exact rowOf_append (pst g1 g2 (TL.tl z)) _ _ [cc] (ks, [])
          have hlen3 := rowOf_len (pst g1 g2 (TL.tl z)) [Sum.inl a, Sum.inl b] ((TL.tl z).take j) (ks, [])
          have hlenr := rowOf_row (pst g1 g2 (TL.tl z)) [Sum.inl a, Sum.inl b] ((TL.tl z).take j) (ks, [])
          have hjz : ((TL.tl z).take j).length ≤ 3 := by rw [List.length_take]; omega
          rw [hstep]
          generalize rowOf (pst g1 g2 (TL.tl z)) [Sum.inl a, Sum.inl b] ((TL.tl z).take j) (ks, []) = q at W4 hr4 hdq hstep hlen3 hlenr ⊢
          obtain ⟨qk, qr⟩ := q
          dsimp only at W4 hr4 hdq hlen3 hlenr ⊢
          rw [List.length_nil, Nat.zero_add] at hlenr
          have la4 : as'.length = qk.length := W4.at_.1
          obtain ⟨x1, x2, x3, x4⟩ := atG (k := j) h1 a0 a1 (by omega)
          obtain ⟨y1, y2, y3, y4⟩ := atG (k := j) h2 b0 b1 (by omega)
          have ea : stepG g1 (TL.tl z) a cc = g1[a.toNat][j] := by
            have := stepG_eq (gs := g1) (L := TL.tl z) (s := a) (c := cc) x1 (by rw [hidx]; exact x2)
            rw [this]
            simp only [hidx]
          have eb : stepG g2 (TL.tl z) b cc = g2[b.toNat][j] := by
            have := stepG_eq (gs := g2) (L := TL.tl z) (s := b) (c := cc) y1 (by rw [hidx]; exact y2)
            rw [this]
            simp only [hidx]
          have ekk : pst g1 g2 (TL.tl z) [Sum.inl a, Sum.inl b] cc = [.inl (g1[a.toNat][j]), .inl (g2[b.toNat][j])] := by
            show [Sum.inl (stepG g1 (TL.tl z) a cc), Sum.inl (stepG g2 (TL.tl z) b cc)] = _
            rw [ea, eb]
          obtain ⟨ra, hra⟩ : ∃ ra, rs1[a.toNat]? = some ra := ⟨_, List.getElem?_eq_getElem (by have := hrs1.1; omega)⟩
          obtain ⟨rb, hrb⟩ : ∃ rb, rs2[b.toNat]? = some rb := ⟨_, List.getElem?_eq_getElem (by have := hrs2.1; omega)⟩
          have hrA := W4.same _ _ (hrs1.2 a.toNat ra _ hra (List.getElem?_eq_getElem x1))
          have hrB := W4.same _ _ (hrs2.2 b.toNat rb _ hrb (List.getElem?_eq_getElem y1))
          have ht14 := W4.same _ _ ht1
          have ht24 := W4.same _ _ ht2
          have hR14 := W4.same _ _ hR1
          have hR24 := W4.same _ _ hR2
          have atj : ∀ xs : List Int, ∀ hx : j < xs.length, atI (xs.map V.int) ((0 : Int) + (j : Int)) = some (.int xs[j]) := fun xs hx => at_of' (show (0 : Int) + (j : Nat) = ((j : Nat) : Int) by omega) (by rw [List.getElem?_map, List.getElem?_eq_getElem hx]; rfl)
          refine ⟨_, rfl, t1, _, 1, .ref R1, rfl, rfl, SqT.of ht14, rfl, _, rfl, R1, _, a, .ref ra, rfl, rfl, SqL.of hR14, at_of' (show a = ((a.toNat : Nat) : Int) by omega) (by rw [List.getElem?_map, hra]; rfl), _, rfl, ra, _, (0 : Int) + j, .int (g1[a.toNat][j]), rfl, rfl, SqL.of hrA, atj _ x2,
            _, rfl, t2, _, 1, .ref R2, rfl, rfl, SqT.of ht24, rfl, _, rfl, R2, _, b, .ref rb, rfl, rfl, SqL.of hR24, at_of' (show b = ((b.toNat : Nat) : Int) by omega) (by rw [List.getElem?_map, hrb]; rfl), _, rfl, rb, _, (0 : Int) + j, .int (g2[b.toNat][j]), rfl, rfl, SqL.of hrB, atj _ y2, by show 2 ≤ sizeLine; decide, fun q hq => ?_⟩
          have hpk := hpd cc hccm
          rw [ekk] at hpk ⊢
          generalize g1[a.toNat][j] = xa at hpk ⊢
          generalize g2[b.toNat][j] = xb at hpk ⊢
          have W5 := W4.sm (same_new (o := .tup [.int xa, .int xb]) hq)
          have hr5 := same_new (o := .tup [.int xa, .int xb]) hq _ _ hr4
          have hat : kdT.at_ (L2.upd H4 q (.tup [.int xa, .int xb])) (.ref q) [.inl xa, .inl xb] := ⟨q, rfl, upd_same⟩
          generalize L2.upd H4 q (.tup [.int xa, .int xb]) = H5 at W5 hr5 hat ⊢
          have okD : ∀ k, pDm g1 g2 k → okM k := fun k ⟨u, v, _, _, _, _, e⟩ x hx => by
            subst e
            rcases List.mem_cons.mp hx with rfl | hx
            · trivial
            · rw [List.mem_singleton.mp hx]; trivial
          have hokq : ∀ k ∈ qk, okM k := fun k hk => okD k (hdq k hk)
          have hokm := okD _ hpk
          have first : ∀ (Z : List (List Key)) (m' : Nat) (z' : PyData), m' < num Z [Sum.inl xa, Sum.inl xb] → (Z.map memD)[m']? = some z' → PyData.eqv z' (memD [Sum.inl xa, Sum.inl xb]) = false := fun Z m' z' hm' hz' => by
            rw [List.getElem?_map] at hz'
            obtain ⟨k', hk', rfl⟩ := Option.map_eq_some_iff.mp hz'
            rw [eqv_memD]
            refine decide_eq_false fun e => ?_
            subst e
            have := num_le hk'
            omega
          refine ⟨_, rfl, _, rfl, memD [Sum.inl xa, Sum.inl xb], qk.map memD, kddT.dp hat, .lst (SqL.of W5.fnd) (kddT.dps W5.at_), shaped_memD hokm, shaped_memDs hokq, _, rfl, ?_⟩
          have any1 : ((qk.map memD).any fun z => PyData.eqv z (memD [Sum.inl xa, Sum.inl xb])) = true ↔ [Sum.inl xa, Sum.inl xb] ∈ qk := kddT.any qk _
          by_cases hin : [Sum.inl xa, Sum.inl xb] ∈ qk
          · rw [any1.mpr hin]
            show (if false = true then _ else _)
            rw [if_neg (by decide)]
            have ea1 : add1 qk [Sum.inl xa, Sum.inl xb] = qk := if_pos hin
            rw [ea1]
            refine ⟨_, rfl, Or.inl ⟨rfl, _, SqL.of hr5⟩, _, rfl, Or.inl ⟨rfl, _, SqL.of W5.fnd⟩, _, rfl, F, _, memD [Sum.inl xa, Sum.inl xb], qk.map memD, num qk [Sum.inl xa, Sum.inl xb], memD [Sum.inl xa, Sum.inl xb], rfl, rfl, .lst (SqL.of W5.fnd) (kddT.dps W5.at_), kddT.dp hat, shaped_memDs hokq, shaped_memD hokm, (by rw [List.getElem?_map, num_get hin]; rfl), (by rw [eqv_memD]; exact decide_eq_true rfl), (fun m' z' hm' hz' => first qk m' z' hm' hz'), rr, _, _, rfl, rfl, hr5, ?_, ?_⟩
            · rw [List.length_map]; exact small1000 (by omega)
            · exact ⟨as', _, _, rfl, W5.putr hr5 nrF nrR hfr hr0, by rw [upd_same, List.map_append]; rfl, hdq⟩
          · rw [Bool.eq_false_iff.mpr fun q => hin (any1.mp q)]
            show (if true = true then _ else _)
            rw [if_pos rfl]
            have ea1 : add1 qk [Sum.inl xa, Sum.inl xb] = qk ++ [[Sum.inl xa, Sum.inl xb]] := if_neg hin
            rw [ea1]
            have W6 := W5.add nRF hF0 hat
            have hr6 : (L2.upd H5 F (.lst (as' ++ [.ref q]))) rr = some (.lst (qr.map fun (n : Nat) => V.int (n : Int))) := by
              rw [upd_ne nrF]; exact hr5
            refine ⟨_, rfl, Or.inl ⟨rfl, _, SqL.of W5.fnd⟩, _, rfl, F, _, _, rfl, rfl, W5.fnd, small1000 (by omega), ?_⟩
            have hat6 : kdT.at_ (L2.upd H5 F (.lst (as' ++ [.ref q]))) (.ref q) [.inl xa, .inl xb] := W6.at_.2 qk.length _ _ (by rw [← la4, List.getElem?_append_right (Nat.le_refl _), Nat.sub_self]; rfl) (by rw [List.getElem?_append_right (Nat.le_refl _), Nat.sub_self]; rfl)
            generalize L2.upd H5 F (.lst (as' ++ [.ref q])) = H6 at W6 hr6 hat6 ⊢
            have hin2 : [Sum.inl xa, Sum.inl xb] ∈ qk ++ [[Sum.inl xa, Sum.inl xb]] := by simp
            have hdq2 : ∀ k ∈ qk ++ [[Sum.inl xa, Sum.inl xb]], pDm g1 g2 k := fun k hk => by
              rcases List.mem_append.mp hk with h | h
              · exact hdq k h
              · rw [List.mem_singleton.mp h]; exact hpk
            have hokq2 : ∀ k ∈ qk ++ [[Sum.inl xa, Sum.inl xb]], okM k := fun k hk => okD k (hdq2 k hk)
            refine ⟨_, rfl, Or.inl ⟨rfl, _, SqL.of hr6⟩, _, rfl, Or.inl ⟨rfl, _, SqL.of W6.fnd⟩, _, rfl, F, _, memD [Sum.inl xa, Sum.inl xb], (qk ++ [[Sum.inl xa, Sum.inl xb]]).map memD, num (qk ++ [[Sum.inl xa, Sum.inl xb]]) [Sum.inl xa, Sum.inl xb], memD [Sum.inl xa, Sum.inl xb], rfl, rfl, .lst (SqL.of W6.fnd) (kddT.dps W6.at_), kddT.dp hat6, shaped_memDs hokq2, shaped_memD hokm, (by rw [List.getElem?_map, num_get hin2]; rfl), (by rw [eqv_memD]; exact decide_eq_true rfl), (fun m' z' hm' hz' => first _ m' z' hm' hz'), rr, _, _, rfl, rfl, hr6, ?_, ?_⟩
            · rw [List.length_map]; exact small1000 (by omega)
            · exact ⟨as' ++ [.ref q], _, _, rfl, W6.putr hr6 nrF nrR hfr hr0, by rw [upd_same, List.map_append]; rfl, hdq2⟩
        · rintro σ H4 ⟨as', v8, v9, rfl, W4, hr4, _⟩
          rw [List.take_of_length_le (by rw [← TL.len_tl]; omega)] at W4 hr4
          have et : turns (pst g1 g2 (TL.tl z)) (TL.tl z) [Sum.inl 0, Sum.inl 0] (n + 1) = ((rowOf (pst g1 g2 (TL.tl z)) [Sum.inl a, Sum.inl b] (TL.tl z) (ks, [])).1, rows ++ [(rowOf (pst g1 g2 (TL.tl z)) [Sum.inl a, Sum.inl b] (TL.tl z) (ks, [])).2]) := by
            show turn (pst g1 g2 (TL.tl z)) (TL.tl z) (turns (pst g1 g2 (TL.tl z)) (TL.tl z) [Sum.inl 0, Sum.inl 0] n) = _
            rw [ep]
            unfold turn
            dsimp only
            rw [hn, hmm]
          refine ⟨_, rfl, Or.inl ⟨rfl, _, SqL.of W4.rws⟩, _, rfl, R, _, _, rfl, rfl, W4.rws, small1000 (by rw [List.length_map]; omega), as', rs ++ [rr], _, _, _, _, _, _, rfl, ?_, fun i hi => ?_, n121⟩
          · rw [et]
            exact W4.addr nRF hR0 hr4 nrF nrR
          · by_cases e : i = n
            · subst e; rw [ep]; exact hn ▸ c1
            · exact hlt i (by omega)
    · rintro σ H1 ⟨as, rs, v4, v5, v6, v7, v8, v9, rfl, W, hlt, hn40⟩
      exact absurd hn40 (by decide)
end
end Vf
set_option Elab.async false
set_option linter.all false
set_option maxRecDepth 100000
set_option maxHeartbeats 4000000
namespace Vf
open PySem L2 PyProof.Rows
/-- a search that has come to its end goes no further -/
theorem turns_far {κ : Type} [DecidableEq κ] {st : κ → Nat → κ} {L : List Nat} {s0 : κ} {N M : Nat} (h : N ≤ M) (hle : (turns st L s0 N).1.length ≤ N) : turns st L s0 M = turns st L s0 N :=
  turns_stay st L s0 (i := N) (Nat.le_of_eq (turns_done st L s0 hle).symm) M h
theorem turns_big {κ : Type} [DecidableEq κ] {st : κ → Nat → κ} {L : List Nat} {s0 : κ} {N M : Nat} (h : N ≤ M) (hb : N < (turns st L s0 M).1.length) : N < (turns st L s0 N).1.length := by
  refine Classical.byContradiction fun q => ?_
  have hle : (turns st L s0 N).1.length ≤ N := by omega
  rw [turns_far h hle] at hb
  exact q hb
/-- which pairs are good -/
def pgT (taken : Bool) (e1 e2 : List Int) : List Key → Bool
  | [.inl a, .inl b] => decide (a ∈ e1) && (decide (b ∈ e2) == taken)
  | _ => false
theorem pgT_both {g1 g2 : List (List Int)} (e1 e2 : List Int) {k : List Key} (h : pDm g1 g2 k) : pgT true e1 e2 k = pgB e1 e2 k := by
  obtain ⟨a, b, _, _, _, _, rfl⟩ := h
  show (decide (a ∈ e1) && (decide (b ∈ e2) == true)) = (decide (a ∈ e1) && decide (b ∈ e2))
  simp
theorem pgT_without {g1 g2 : List (List Int)} (e1 e2 : List Int) {k : List Key} (h : pDm g1 g2 k) : pgT false e1 e2 k = pgW e1 e2 k := by
  obtain ⟨a, b, _, _, _, _, rfl⟩ := h
  show (decide (a ∈ e1) && (decide (b ∈ e2) == false)) = (decide (a ∈ e1) && !decide (b ∈ e2))
  by_cases h : b ∈ e2 <;> simp [h]
theorem goodFrom_congr {κ : Type} {gd gd' : κ → Bool} : ∀ (ks : List κ) (n : Nat), (∀ k ∈ ks, gd k = gd' k) → goodFrom gd n ks = goodFrom gd' n ks
  | [], n, _ => rfl
  | k :: ks, n, h => by
    have ih := goodFrom_congr ks (n + 1) fun a ha => h a (List.mem_cons_of_mem _ ha)
    unfold goodFrom
    rw [ih, h k List.mem_cons_self]
theorem foldl_pst (g1 g2 : List (List Int)) (L : List Nat) : ∀ (y : List Nat) (a b : Int), y.foldl (pst g1 g2 L) [.inl a, .inl b] = [.inl (walkG g1 L a y), .inl (walkG g2 L b y)]
  | [], _, _ => rfl
  | c :: y, a, b => foldl_pst g1 g2 L y (stepG g1 L a c) (stepG g2 L b c)
end Vf
set_option Elab.async false
set_option linter.all false
set_option maxRecDepth 100000
set_option maxHeartbeats 4000000
/-! isinstance of a caught error of an own class, with or without fields -/
namespace Vf
open PySem
/-! where lambdas stand: in lists, in expressions that are statements -/
def lstN : PySem.Expr → Nat → PySem.Expr
  | .List es _, i => es.getD i (.Constant .none 0 ⟨0, 0, 0, 0⟩)
  | e, _ => e
def stExp : Stmt → PySem.Expr
  | .Expr v _ => v
  | _ => .Constant .none 0 ⟨0, 0, 0, 0⟩
end Vf
namespace Vf
open PySem PySem.Spec PySem.Calls PyProof.Rows PySem.W
section
variable {prog : Program} {w : World} {A : Around} {K : PySem.W.Frag} {x D : Addr} {ox : Obj} {od : Option Obj}
/-- a data descriptor of the class goes ahead of what the instance's dict holds -/
theorem found_desc {name : Str} {a g : Value} (hc : (clsIn K D).isSome = true) (ha : findIn K (.ref D) name = some (some a)) (hg : specialIn K a "__get__" = some (some g)) (ht : takesIn K a = some true) : findObj K D od name = some (.bind g a) := by
  obtain ⟨cd, hc⟩ := Option.isSome_iff_exists.mp hc
  simp only [findObj, hc, Option.bind_some, ha, hg, ht]
theorem class_of_exc {E : Value → Shared → Prop} {s : Shared} {Q : Option Value → Shared → Prop} (C : L2.ExcC K D) (X : K.In s.heap) (I : InstAt s.heap x ox D od) (h : Q (some (.ref D)) { s with toks := s.toks + 1 }) :
    wpAny (model prog w) A (getAttr? (.ref x) "__class__") Q E s := by
  have hf : findObj K D od "__class__" = some (.bind (.builtin "getset_descriptor.__get__") (.builtin "object.__class__")) := found_desc (by obtain ⟨cd, hc, _⟩ := any_some C.hd; simp [hc]) C.ha C.hn C.ht
  have hm := C.hm
  obtain ⟨hp, g, d, t, os⟩ := s
  have M0 : Looks (model prog w) hp (typeOf (.ref x)) (.ref D) := I.type
  have M1 := looks_findIn (M := model prog w) X C.hg
  have M2 := looks_findIn (M := model prog w) X C.hk
  have M3 := looks_find (M := model prog w) X I hf
  have isEx : Looks (model prog w) hp (isInstance (.ref x) (.type "BaseException")) true := M0.andThen (looks_subIn X C.hs)
  have b0 : (false && onTheHeap (Value.builtin "BaseException.__getattribute__")) = false := rfl
  have b1 : (Value.builtin "BaseException.__getattribute__" == Value.builtin "object.__getattribute__") = false := by decide +kernel
  have b2 : (onTheHeap (Value.ref D) && Value.builtin "BaseException.__getattribute__" == Value.builtin "object.__getattribute__") = false := by simp [b1]
  unfold getAttr? getAttrBy? getAttrBy
  refine wpAny_bind (wpAny_mkText (wpAny_bind (wpAny_attempt (wpAny_holding (wpAny_bind (M0.at (wpAny_bind (M1.at ?_))))))))
  show wpAny (model prog w) A (if (onTheHeap (Value.ref D) && Value.builtin "BaseException.__getattribute__" == Value.builtin "object.__getattribute__") = true then _ else _) _ _ _
  rw [b2, if_neg Bool.false_ne_true]
  unfold getAttrByItsOwn hookBefore
  refine wpAny_bind ?_
  rw [if_pos (show onTheHeap (Value.ref D) = true by rfl)]
  refine M2.at (wpAny_bind (wpAny_attempt (wpAny_holding ?_)))
  unfold callGetattribute
  rw [b0, if_neg Bool.false_ne_true]
  unfold boundAndCalled
  rw [PySem.F.excAttr_ValueError.ga.bind (.ref x)]
  refine wpAny_bind (wpAny_pure ?_)
  show wpAny (model prog w) _ (call (.builtin "BaseException.__getattribute__") [.ref x, .str "__class__" t]) _ _ _
  refine wpAny_call (codeAny_call_builtin PySem.F.excAttr_ValueError.ga.plain PySem.F.entry_bexc_ga (@check_slot (model prog w) _ _ ⟨hp, g, d, t + 1, os⟩ "BaseException.__getattribute__" "BaseException" "__getattribute__" (.ref x) [.str "__class__" t] [] _ (by decide +kernel) (by decide +kernel) isEx (PySem.F.args_bexc_ga (.ref x) (.str "__class__" t)) ?_))
  unfold Builtin.«object.__getattribute__»
  refine wpAny_bind (wpAny_of_eq (a := ((Value.ref x : Value), [Value.str "__class__" t])) (by first | rfl | (simp only [slotArgs]; rfl)) (wpAny_bind (wpAny_pure (wpAny_bind (M0.at (wpAny_bind (M3.at ?_)))))))
  show wpAny (model prog w) _ (holding [Value.builtin "object.__class__"] (call (.builtin "getset_descriptor.__get__") [.builtin "object.__class__", .ref x, .ref D]) >>= ret) _ _ _
  refine wpAny_bind (wpAny_holding (wpAny_call (class_get (s := ⟨hp, g, d, t + 1, os⟩) (ox := ox) (od := od) X I hm (wpAny_pure ?_))))
  show wpAny (model prog w) _ (handedOut (.ref D)) _ _ _
  rw [handedOut_of (v := .ref D) rfl]
  first | exact wpAny_pure (wpAny_pure h) | exact wpAny_pure h | exact wpAny_pure (wpAny_bind (wpAny_pure (wpAny_pure h)))
theorem kit_exc (C : L2.ExcC K D) : KitX K (.ref x) (.ref D) (fun h => InstAt h x ox D od) where
  ty := fun M h X I => I.type
  it := fun M h X I => by
    obtain ⟨cd, hc, _⟩ := any_some C.hd
    unfold clsIn at hc
    split at hc
    · rename_i c' d' cd' sl' ho
      intro A' Q' E' s' k q
      unfold isType loadHead
      exact wpAny_bind (wpAny_loadPart (k _ _ (X _ _ ho)) (wpAny_pure q))
    · cases hc
  ne := fun h tp dd its n sl X htp => by
    obtain ⟨cd, hc, _⟩ := any_some C.hd
    refine beq_eq_false_iff_ne.mpr fun q => ?_
    have e : D = tp := Value.ref.inj q
    subst e
    unfold clsIn at hc
    split at hc
    · rename_i c' d' cd' sl' ho
      have := (X _ _ ho).symm.trans htp
      cases this
    · cases hc
  ca := fun X I k => class_of_exc C X I k
end
end Vf
namespace L2
open PySem PySem.Spec PyProof.Rows
/-- isinstance(e, c), e the exception that the suite holds: with a dict, or without -/
def rIsX (K : PySem.W.Frag) (a : Addr) (cls : Value) (d : Option Addr) : List V → Hp → VK → Prop := fun xs H Q => ∃ (D : Addr) (c : V) (cv : Value) (b : Bool), cls = .ref D ∧ ExcC K D ∧ (d = none ∨ ∃ (dd : Addr) (fs : List (Str × V)), d = some dd ∧ H dd = some (.xd fs)) ∧
  xs = [.ref a, c] ∧ (∀ u, RelV c u → u = cv) ∧ PySem.W.kitOne K (.ref D) cv = some b ∧ Q (.bl b) H
theorem call_isX {X : Cx} {a : Addr} {cls : Value} {d : Option Addr} {oe : Obj} {pn : List (Addr × Obj)} (hz : Zc cls d oe) (hf : ∃ vs, oe.data = .fields vs) : CallR (X.suite a ((a, oe) :: pn)) (.builtin "isinstance") (rIsX X.K a cls d) := by
  intro pins s σ H xs us Q I r h
  obtain ⟨D, c, cv, b, rfl, C, hd, rfl, hcv, e, q⟩ := h
  cases r with
  | cons rx rr =>
    cases rr with
    | cons rt rr =>
      cases rr
      cases rx
      obtain rfl := hcv _ rt
      obtain ⟨hget, _⟩ := I.pin (a, oe) (List.mem_append_left _ List.mem_cons_self)
      obtain ⟨vs, hv⟩ := hf
      obtain ⟨od, J⟩ : ∃ od, PySem.W.InstAt s.heap a oe D od := by
        have hno : PySem.W.notCls oe = true := by unfold PySem.W.notCls; rw [hv] <;> rfl
        rcases hd with rfl | ⟨dd, fs, rfl, ea⟩
        · exact ⟨none, hget, hz.1, hno, by rw [hz.2]; trivial⟩
        · have hx : ObjOk X.prog X.w H s.heap dd (.xd fs) := I.hok dd _ ea
          obtain ⟨mA, hns, _⟩ := hx
          obtain ⟨od, ho, _⟩ := lookIn_ns hns
          exact ⟨some od, hget, hz.1, hno, by rw [hz.2]; exact ho⟩
      exact PySem.W.kia_one (Vf.kit_exc C) I.kIn J e (fun z => nomatch z) fun tk => ⟨.bl b, H, I.kept (t' := tk) fun _ _ z => z, rfl, q⟩
end L2
set_option Elab.async false
set_option linter.all false
set_option maxRecDepth 100000
set_option maxHeartbeats 4000000
/-! several except clauses, some with a name -/
namespace Vf
open PySem L2 PySem.Spec PyProof.Rows
abbrev Suite := Addr → Value → Option Addr → TS
/-- behind a named clause the name is gone -/
def gone (i : Nat) (D : Ends) : Ends := { nx := fun σ H => D.nx (σ.set i none) H, rt := D.rt, bk := fun σ H => D.bk (σ.set i none) H, ct := fun σ H => D.ct (σ.set i none) H }
def wClauses (K : PySem.W.Frag) (Wout : WX) (D : Ends) : List (Value × Option Nat × Suite) → WX
  | [] => Wout
  | (c, none, ts) :: r => fun cls d σ H => ∃ b, PySem.W.exmOne K cls c = some b ∧ (b = true → ∀ a, H a = none → ts a cls d D σ H) ∧ (b = false → wClauses K Wout D r cls d σ H)
  | (c, some i, ts) :: r => fun cls d σ H => ∃ b, PySem.W.exmOne K cls c = some b ∧ (b = true → ∀ a, H a = none → ts a cls d (gone i D) (σ.set i (some (.ref a))) H) ∧ (b = false → wClauses K Wout D r cls d σ H)
inductive Clauses (X : Cx) : List ExceptHandler → List (Value × Option Nat × Suite) → Prop
  | nil : Clauses X [] []
  | plain {x : Str} {c : Value} {ts : Suite} {b₀ : Stmt} {suite : List Stmt} {np pos' : Pos} {hds : List ExceptHandler} {l : List (Value × Option Nat × Suite)} (hc : Names X x c)
      (hsu : ∀ (a : Addr) (oe : Obj) (cls : Value) (d : Option Addr) (pn : List (Addr × Obj)), Zc cls d oe → (∃ vs, oe.data = .fields vs) → PSs (X.suite a ((a, oe) :: pn)) (b₀ :: suite) (ts a cls d)) (r : Clauses X hds l) :
      Clauses X (.ExceptHandler (some (.Name x np)) none (b₀ :: suite) pos' :: hds) ((c, none, ts) :: l)
  | named {x n : Str} {c : Value} {i : Nat} {ts : Suite} {b₀ : Stmt} {suite : List Stmt} {np pos' : Pos} {hds : List ExceptHandler} {l : List (Value × Option Nat × Suite)} (hi : X.N[i]? = some n) (hln : X.env.kindOf n = some .local) (hc : Names X x c)
      (hsu : ∀ (a : Addr) (oe : Obj) (cls : Value) (d : Option Addr) (pn : List (Addr × Obj)), Zc cls d oe → (∃ vs, oe.data = .fields vs) → PSs (X.suite a ((a, oe) :: pn)) (b₀ :: suite) (ts a cls d)) (r : Clauses X hds l) :
      Clauses X (.ExceptHandler (some (.Name x np)) (some n) (b₀ :: suite) pos' :: hds) ((c, some i, ts) :: l)
section
variable {X : Cx} {body : List Stmt} {h₀ : ExceptHandler} {hds : List ExceptHandler} {l : List (Value × Option Nat × Suite)} {pos : Pos} {tb : WX → TS} {Wout : WX}
theorem ps_try_clauses (hs : X.stack = X.env :: X.outer) (hf : X.env.frame = some X.env.locals) (hN : X.N.Nodup) (tk : Takes X Wout)
    (hb : ∀ (W : WX) (pn : List (Addr × Obj)) (xe : Value → Shared → Prop), Takes (X.tr pn xe) W → PassesOwn (model X.prog X.w) X.A X.env xe → PSs (X.tr pn xe) body (tb W))
    (hh : Clauses X (h₀ :: hds) l) : PS X (.Try body (h₀ :: hds) [] [] pos) (fun D σ H => tb (wClauses X.K Wout D l) D σ H) := by
  refine ⟨fun pins s σ H D I h => ?_⟩
  have okX := I.ok
  have fr0 : X.A.frames = some (X.env :: X.outer) := by rw [okX.frames, hs]
  refine wpAny_Try_except ?_
  refine wpAny_mono ((hb (wClauses X.K Wout D l) (X.pn ++ pins) (fun e s1 => wpAny (model X.prog X.w) X.A (noteFrame e X.env) (fun _ s2 => wpAny (model X.prog X.w) X.A (setFlight e none) (fun _ s3 => wpAny (model X.prog X.w) X.A (handleBy e X.env (h₀ :: hds)) (SP X pins D) X.xe s3) X.xe s2) X.xe s1) (fun u s' xx => ?_) PassesOwn.looking).run [] s σ H D (I.toTry _) h) (fun f s1 hsp => ?_) fun e s1 he => he
  · obtain ⟨a, B, sI, pins', σ', H', cls, d, rfl, J', nb, up, sky, na, os, ag, w⟩ := xx
    have J := J'.ofTry okX
    rw [hs] at sky
    show wpAny (model X.prog X.w) X.A (noteFrame (.ref a) X.env) _ _ _
    refine Sky.land Zc.steady fr0 hf sky fun h3 fl3 up3 => ?_
    have J3 : Inv X pins σ' H' { s' with heap := h3 } := J.landed nb fl3.1 (up.trans up3) os ag
    obtain ⟨oe3, vs3, he3, hz3, hd3⟩ := fl3.there
    have nfr : a ∉ frs (X.env :: X.outer) := fun hm => by
      obtain ⟨_, o1, e1, hnf⟩ := fl3.2.2.1.mem hm
      rw [he3] at e1
      cases e1
      exact hnf _ hd3
    have nL : a ≠ X.env.locals := fun q => nfr (List.mem_filterMap.mpr ⟨X.env, List.mem_cons_self, by rw [hf, q]⟩)
    have nF : a ∉ X.fs := fun hm => by
      obtain ⟨e1, h1, q⟩ := List.mem_filterMap.mp hm
      exact nfr (List.mem_filterMap.mpr ⟨e1, List.mem_cons_of_mem _ h1, q⟩)
    have S3 := J3.suite he3 hd3 na nL nF
    have cls3 : PySem.W.Looks (model X.prog X.w) h3 (typeOf (.ref a)) cls := fun A Q E s1 k q => wpAny_typeOf_ref (k _ _ he3) (by rw [hz3.1]; exact q)
    have look : ∀ {x : Str} {c : Value} {np : Pos} (hc : Names X x c) {Q E : Value → Shared → Prop}, Q c { s' with heap := h3 } → wpAny (model X.prog X.w) (X.A.mark (some (.ref a))) (eval (.Name x np) X.env) Q E { s' with heap := h3 } := fun {x c np} hc {Q E} q => by
      obtain ⟨c1, c2, c3 | ⟨c3, c4, c5⟩⟩ := hc
      · exact ld_glob (X := X.suite a ((a, oe3) :: (X.pn ++ pins))) S3 c1 c3 q c2
      · exact ld_blt (X := X.suite a ((a, oe3) :: (X.pn ++ pins))) S3 c1 c3 c4 q c5 c2
    have go : ∀ {hds' : List ExceptHandler} {l' : List (Value × Option Nat × Suite)}, Clauses X hds' l' → wClauses X.K Wout D l' cls d σ' H' → wpAny (model X.prog X.w) X.A (handleBy (.ref a) X.env hds') (SP X pins D) X.xe { s' with heap := h3 } := by
      intro hds' l' hk
      induction hk with
      | nil =>
        intro w
        refine wpAny_handleBy_nil ?_
        obtain ⟨k1, k2, k3, oe, vs, T, oT, ts', he, hz, hd, h1, hr⟩ := id fl3
        unfold PySem.passOn
        refine wpAny_bind (wpAny_field he hd h1 ?_)
        rw [if_neg (show ¬ ((Value.ref T == Value.none) = true) from by simp)]
        have last : wpAny (model X.prog X.w) X.A (setFlight (.ref a) X.env.frame) (fun _ s4 => wpAny (model X.prog X.w) X.A (throw (.ref a) : Sem Flow) (SP X pins D) X.xe s4) X.xe { s' with heap := h3 } := by
          rw [hf]
          refine HandSPX.setFlight_upZ fl3 fun h4 hh4 up4 => wpAny_throw (tk _ _ ?_)
          exact ⟨a, B, sI, pins, σ', H', cls, d, rfl, J, nb, (up.trans up3).trans up4, .inr (.inr (by rw [hs]; exact hh4)), na, os, ag, w⟩
        first
          | exact wpAny_bind (wpAny_pure (wpAny_bind last))
          | exact wpAny_bind last
      | @plain x c ts b₀ suite np pos' hds2 l2 hc hsu r ih =>
        intro w
        obtain ⟨b, hb1, hyes, hno⟩ := w
        refine wpAny_handleBy_cons (codeAny_handlers_test (look hc ((PySem.W.exm_one (M := model X.prog X.w) J3.kIn cls3 hb1).here ?_))) (by intro q; cases q)
        cases b with
        | false => exact ih (hno rfl)
        | true =>
          refine codeAny_handlers_suite (HandSPX.lands_againZ fl3 fun h4 fl4 up4 => ?_)
          have J4 : Inv X pins σ' H' { s' with heap := h4 } := J.landed nb fl4.1 ((up.trans up3).trans up4) os ag
          obtain ⟨oe4, vs4, he4, hz4, hd4⟩ := fl4.there
          refine wpAny_mono ((hsu a oe4 cls d (X.pn ++ pins) hz4 ⟨_, hd4⟩).run [] _ _ H' _ (J4.suite he4 hd4 na nL nF) (hyes rfl a na)) (fun f s6 hsp => ?_) (fun _ _ z => False.elim z)
          cases f with
          | ret u =>
            obtain ⟨v6, σ6, H6, S6, r6, q6⟩ := hsp
            exact ⟨_, _, _, S6.unsuite okX, r6, q6⟩
          | next | brk | cont =>
            obtain ⟨σ6, H6, S6, q6⟩ := hsp
            exact ⟨_, _, S6.unsuite okX, q6⟩
      | @named x n c i ts b₀ suite np pos' hds2 l2 hi hln hc hsu r ih =>
        intro w
        obtain ⟨b, hb1, hyes, hno⟩ := w
        refine wpAny_handleBy_cons (codeAny_handlers_test (look hc ((PySem.W.exm_one (M := model X.prog X.w) J3.kIn cls3 hb1).here ?_))) (by intro q; cases q)
        cases b with
        | false => exact ih (hno rfl)
        | true =>
          refine codeAny_handlers_suite_as (HandSPX.lands_againZ fl3 fun h4 fl4 up4 => ?_)
          have J4 : Inv X pins σ' H' { s' with heap := h4 } := J.landed nb fl4.1 ((up.trans up3).trans up4) os ag
          obtain ⟨oe4, vs4, he4, hz4, hd4⟩ := fl4.there
          refine store_ok (X := X.suite a ((a, oe4) :: (X.pn ++ pins))) (v := .ref a) (J4.suite he4 hd4 na nL nF) hN hi (.inl hln) rfl (fun s5 S5 => ?_) (.inr hln)
          refine wpAny_mono ((hsu a oe4 cls d (X.pn ++ pins) hz4 ⟨_, hd4⟩).run [] s5 _ H' _ S5 (hyes rfl a na)) (fun f s6 hsp => ?_) (fun _ _ z => False.elim z)
          cases f with
          | ret u =>
            obtain ⟨v6, σ6, H6, S6, r6, q6⟩ := hsp
            exact gone_ok (S6.unsuite okX) hN hi hln fun s7 J7 => ⟨_, _, _, J7, r6, q6⟩
          | next | brk | cont =>
            obtain ⟨σ6, H6, S6, q6⟩ := hsp
            exact gone_ok (S6.unsuite okX) hN hi hln fun s7 J7 => ⟨_, _, J7, q6⟩
    exact go hh w
  · cases f with
    | next =>
      obtain ⟨σ', H', J', q⟩ := hsp
      exact wpAny_execs_nil ⟨σ', H', J'.ofTry okX, q⟩
    | ret u =>
      obtain ⟨v, σ', H', J', r, q⟩ := hsp
      exact ⟨v, σ', H', J'.ofTry okX, r, q⟩
    | brk | cont =>
      obtain ⟨σ', H', J', q⟩ := hsp
      exact ⟨σ', H', J'.ofTry okX, q⟩
end
end Vf
set_option Elab.async false
set_option linter.all false
set_option maxRecDepth 100000
set_option maxHeartbeats 4000000
namespace Vf
open PySem L2 PyProof.Rows
open NdefX LamX
/-- what both or without tells -/
inductive TOut where
  | shape (z : Str) (gs : List (List Int)) (es : List Int)
  | unlike
  | many
def spAskT (K : PySem.W.Frag) (NT : List NTab) (C CU CT : Addr) (out : TOut) : Sp := fun vs H Q E => vs = [] ∧ TabsN NT H ∧ match out with
  | .shape z gs es => ∀ o H', SameT NT H H' → ShapeAt K C H' o z gs es → Q (.ref o) H'
  | .unlike => ∀ H', SameT NT H H' → E (.ref CU) none H'
  | .many => ∀ d H', RaisedT NT H H' d "what" (.str "states") → E (.ref CT) (some d) H'
def ToldAt (K : PySem.W.Frag) (C : Addr) (H : Hp) (v : V) : TOut → Prop
  | .shape z gs es => ∃ o, v = .ref o ∧ ShapeAt K C H o z gs es
  | .unlike => ∃ t, v = .ref t ∧ H t = some (.tup [.str "unlike", .bl true])
  | .many => ∃ t, v = .ref t ∧ H t = some (.tup [.str "states", .bl true])
def spTell (P : Program) (w : World) (K : PySem.W.Frag) (mg : Str → Option Value) (base : Heap) (NT : List NTab) (C CU CT : Addr) : Sp := fun vs H Q _ => ∃ (f : Addr) (S : Hp → Prop) (out : TOut), vs = [.ref f] ∧ FV P w K mg base (L2.CX P w) 13 f S (spAskT K NT C CU CT out) ∧ S H ∧ TabsN NT H ∧ ∀ v H', SameT NT H H' → ToldAt K C H' v out → Q v H'
theorem sameT_up {T : List NTab} {cs : Cs} {H H2 : Hp} (hc : HeldC cs H) (hn : ∀ c o, cs.lookup c = some o → H2 c = none) (s : SameT T (hid cs H) H2) : SameT T H (shw cs H2) := by
  refine ⟨fun b o e n => ?_, fun b e => ?_, fun p hp => ?_⟩
  · cases q : cs.lookup b with
    | some y =>
      have := hc b y q
      rw [e] at this
      rw [shw_in q, Option.some.inj this]
    | none => rw [shw_out q]; exact s.ext b o (by rw [hid_out q]; exact e) n
  · cases q : cs.lookup b with
    | some y => rw [shw_in q] at e; cases e
    | none =>
      rw [shw_out q] at e
      have := s.back b e
      rw [hid_out q] at this
      exact this
  · exact (s.tab p hp).ext fun b o e => shw_keep hn e
theorem raisedT_up {T : List NTab} {cs : Cs} {H H2 : Hp} {d : Addr} {f : Str} {v : V} (hc : HeldC cs H) (hn : ∀ c o, cs.lookup c = some o → H2 c = none) (r : RaisedT T (hid cs H) H2 d f v) : RaisedT T H (shw cs H2) d f v := by
  obtain ⟨r0, r1, r2⟩ := r
  have q : cs.lookup d = none := by
    cases q : cs.lookup d with
    | none => rfl
    | some y => rw [hn d y q] at r1; cases r1
  exact ⟨by rw [hid_out q] at r0; exact r0, by rw [shw_out q]; exact r1, sameT_up hc hn r2⟩
theorem askT_hid {K : PySem.W.Frag} {NT : List NTab} {C CU CT : Addr} {out : TOut} {cs : Cs} {H : Hp} {vs : List V} {Q : VK} {E : XK} (hd : CellsData cs) (hc : HeldC cs H) (h : spAskT K NT C CU CT out vs H Q E) :
    spAskT K NT C CU CT out vs (hid cs H) (fun v H2 => (∀ c o, cs.lookup c = some o → H2 c = none) → Q v (shw cs H2)) (fun cl d H2 => (∀ c o, cs.lookup c = some o → H2 c = none) → E cl d (shw cs H2)) := by
  obtain ⟨ev, hT, h⟩ := h
  refine ⟨ev, tabs_hid hd hc hT, ?_⟩
  cases out with
  | shape z gs es => exact fun o H' s hS hn => h o _ (sameT_up hc hn s) (hS.shw hn)
  | unlike => exact fun H' s hn => h _ (sameT_up hc hn s)
  | many => exact fun d H' r hn => h d _ (raisedT_up hc hn r)
structure TxtTe (K : PySem.W.Frag) (mg : Str → Option Value) (B CU CT fT : Addr) : Prop where
  tm : ErrT K mg "TooMany" "what" CT fT
  gU : mg "Unlike" = some (.ref CU)
  gB : mg "CodeError" = some (.ref B)
  isinstance : mg "isinstance" = none
  tt : PySem.W.exmOne K (.ref CT) (.ref CT) = some true
  ut : PySem.W.exmOne K (.ref CU) (.ref CT) = some false
  uu : PySem.W.exmOne K (.ref CU) (.ref CU) = some true
  cT : ExcC K CT
  cU : ExcC K CU
  kT : PySem.W.kitOne K (.ref CT) (.ref B) = some true
  kU : PySem.W.kitOne K (.ref CU) (.ref B) = some true
section
variable {P : Program} {w : World} {K : PySem.W.Frag} {mg : Str → Option Value} {base : Heap}
abbrev s__law_told : Stmt := top 37
abbrev N__law_told : List Str := ["_law_act", "e"]
abbrev P__law_told : List Str := ["_law_act"]
theorem sc__law_told : FnScope N__law_told P__law_told (defScope s__law_told) := ⟨rfl, rfl, rfl, by decide +kernel, rfl, by decide +kernel, by decide +kernel⟩

theorem ok_tell {NT : List NTab} {f C CU CT B fT : Addr} {fd : FuncData} (F : Fun K "_law_told" "_law_told" s__law_told f fd) (T : TxtTe K mg B CU CT fT) : FnOk P w K mg base CX0 14 f fd P__law_told (spTell P w K mg base NT C CU CT) := by
  refine F.ok sc__law_told (fun vs H Q E h => ?_) (fun cdv A outer s H vs Q E hr h => ?_)
  · obtain ⟨fa, S, out, rfl, _⟩ := h
    rfl
  · obtain ⟨fa, S, out, rfl, FS, hS, hT, k⟩ := h
    refine ⟨_, pss_one (ps_try_clauses (tb := fun W => tRet (tCallV0V 0 fa S (spAskT K NT C CU CT out) (WE W))) (Wout := fun _ _ _ _ => False) rfl rfl sc__law_told.nd L2.takes0
        (fun W pn xe tk _ => pss_one (ps_ret (by exact (pe_callV0V FS (hr.mono (by decide)) (fun σ => passAt tk σ) rfl (Or.inl rfl)))))
        (.named (i := 1) (ts := fun a cls d => tRet (tTup (tCons (tXf a cls d CT "what" (tVar 1)) (tCons (tCB (rIsX K a cls d) (tCons (tVar 1) (tCons (tC (.ref B)) tNil))) tNil)))) rfl rfl ⟨rfl, by decide, Or.inl T.tm.g⟩ (fun a oe cls d pn hz hf => pss_one (ps_ret (by exact (pe_tup (pa_cons (pe_xf T.tm.xf T.tm.nf hz hf (pv 1)) (pa_cons (pe_callB (call_isX hz hf) (by rfl) T.isinstance boot_isinstance (pa_cons (pv 1) (pa_cons (pe_glob (by rfl) T.gB (v := .ref B) rfl) pa_nil))) pa_nil))))))
          (.named (i := 1) (ts := fun a cls d => tRet (tTup (tCons (tC (.str "unlike")) (tCons (tCB (rIsX K a cls d) (tCons (tVar 1) (tCons (tC (.ref B)) tNil))) tNil)))) rfl rfl ⟨rfl, by decide, Or.inl T.gU⟩ (fun a oe cls d pn hz hf => pss_one (ps_ret (by exact (pe_tup (pa_cons pe_str (pa_cons (pe_callB (call_isX hz hf) (by rfl) T.isinstance boot_isinstance (pa_cons (pv 1) (pa_cons (pe_glob (by rfl) T.gB (v := .ref B) rfl) pa_nil))) pa_nil)))))) .nil))), ?_⟩
    cases out with
    | shape z gs es => exact ⟨rfl, hS, rfl, hT, fun o H1 s1 hSh => k _ H1 s1 ⟨o, rfl, hSh⟩⟩
    | unlike =>
      refine ⟨rfl, hS, rfl, hT, fun H1 s1 => ?_⟩
      refine ⟨false, T.ut, fun q => Bool.noConfusion q, fun _ => ⟨true, T.uu, fun _ a ha => ?_, fun q => Bool.noConfusion q⟩⟩
      refine ⟨_, rfl, CU, _, .ref B, true, rfl, T.cU, Or.inl rfl, rfl, fun u hu => hu, T.kU, by show 2 ≤ sizeLine; decide, fun t ht => k _ _ (s1.trans (SameT.of (same_new ht) s1.tab)) ⟨t, rfl, upd_same⟩⟩
    | many =>
      refine ⟨rfl, hS, rfl, hT, fun d H1 ⟨hd0, hd1, s1⟩ => ?_⟩
      refine ⟨true, T.tt, fun _ a ha => ?_, fun q => Bool.noConfusion q⟩
      exact ⟨_, rfl, rfl, rfl, d, _, V.str "states", rfl, hd1, by simp [List.lookup], _, rfl, CT, _, .ref B, true, rfl, T.cT, Or.inr ⟨d, _, rfl, hd1⟩, rfl, fun u hu => hu, T.kT, by show 2 ≤ sizeLine; decide, fun t ht => k _ _ (s1.trans (SameT.of (same_new ht) s1.tab)) ⟨t, rfl, upd_same⟩⟩
end
end Vf
set_option Elab.async false
set_option linter.all false
set_option maxRecDepth 100000
set_option maxHeartbeats 4000000
namespace Vf
open PySem L2 PyProof.Rows
open NdefX LamX
theorem op_in_seqK {X : Cx} {K : PySem.W.Frag} (hK : X.K = K) : OpR X (compareOp .In) (rIn K false) := by subst hK; exact op_in_seq
structure TxtPr (K : PySem.W.Frag) (mg : Str → Option Value) (C fCG fCD B CB fB' fSP fSt fEq fLn fPa : Addr) : Prop extends TxtSM K mg C fCG fCD B CB fB' fSP fSt fEq fLn where
  range : mg "range" = none
  m_law_pairs : mg "_law_pairs" = some (.ref fPa)
  k_law_pairs : PySem.W.keepIn K (.ref fPa) = true
theorem dp_states {K : PySem.W.Frag} {H : Hp} {t : Addr} (h : H t = some (.tup [.str "states", .bl true])) : Dp K H (.ref t) (.tuple [.str "states", .bool true]) := .tup (SqT.of h) (.cons (.str _) (.cons (.bl _) .nil))
theorem shaped_two {s : Str} (b : Bool) (h : PyData.strOk s = true) : SeqAt.shaped (.tuple [.str s, .bool b]) = true := by
  simp [SeqAt.shaped, PyData.canLay0, PyData.canLayAll0, PyData.depth, PyData.depthAll, h]
theorem pT_same {g1 g2 : List (List Int)} {L : List Nat} {N M : Nat} (h : N ≤ M) (hl : (turns (pst g1 g2 L) L [Sum.inl 0, Sum.inl 0] M).1.length ≤ N) : turns (pst g1 g2 L) L [Sum.inl 0, Sum.inl 0] M = turns (pst g1 g2 L) L [Sum.inl 0, Sum.inl 0] N := turns_far h (Nat.le_trans (turns_len _ _ _ h) hl)
section
variable {P : Program} {w : World} {K : PySem.W.Frag} {mg : Str → Option Value} {base : Heap}
abbrev pT (g1 g2 : List (List Int)) (z : Str) (N : Nat) : List (List Key) × List (List Nat) := turns (pst g1 g2 (TL.tl z)) (TL.tl z) [Sum.inl 0, Sum.inl 0] N
def spPR (K : PySem.W.Frag) (C : Addr) : Sp := fun vs H Q _ => ∃ (v : V) (t1 t2 : Addr) (z : Str) (g1 g2 : List (List Int)) (e1 e2 : List Int) (taken : Bool) (out : TOut), vs = [v, .ref t1, .ref t2, .bl taken] ∧ ShD H t1 z g1 e1 ∧ ShD H t2 z g2 e2 ∧ GoodRows z.length g1 ∧ GoodRows z.length g2 ∧ g1.length ≤ 11 ∧ g2.length ≤ 11 ∧ z.length ≤ 3 ∧ (TL.tl z).Nodup ∧
  ToldAt K C H v out ∧ (40 < (pT g1 g2 z 40).1.length → out = .many) ∧ ((pT g1 g2 z 40).1.length ≤ 40 → out = .shape z (goals (pT g1 g2 z 40).2) (goodFrom (pgT taken e1 e2) 0 (pT g1 g2 z 40).1)) ∧ ∀ H', Same H H' → Q (.bl true) H'
abbrev s__law_pair_right : Stmt := top 38
abbrev N__law_pair_right : List Str := ["_law_told_here", "_law_one", "_law_other", "_law_taken", "_law_rows", "_law_found", "_law_good", "_law_k", "_law_row"]
abbrev P__law_pair_right : List Str := ["_law_told_here", "_law_one", "_law_other", "_law_taken"]
theorem sc__law_pair_right : FnScope N__law_pair_right P__law_pair_right (defScope s__law_pair_right) := ⟨rfl, rfl, rfl, by decide +kernel, rfl, by decide +kernel, by decide +kernel⟩

theorem ok_pr {f C fCG fCD B CB fB' fSP fSt fEq fLn fPa : Addr} {fd fdLn fdPa : FuncData} (F : Fun K "_law_pair_right" "_law_pair_right" s__law_pair_right f fd) (T : TxtPr K mg C fCG fCD B CB fB' fSP fSt fEq fLn fPa)
    (FPa : Fun K "_law_pairs" "_law_pairs" s__law_pairs fPa fdPa) (b_law_pairs : Binds K fdPa P__law_pairs []) (FLn : Fun K "__len__" "Shape.__len__" s_Shape___len__ fLn fdLn) (bLn : Binds K fdLn P_Shape___len__ []) : FnOk P w K mg base CX0 3 f fd P__law_pair_right (spPR K C) := by
  have G_law_pairs : FnOk P w K mg base CX0 1 fPa fdPa P__law_pairs spPairs := ok_pairs FPa ⟨T.range, T.toTxtSM.len⟩
  have GLn : FnOk P w K mg base CX0 1 fLn fdLn P_Shape___len__ (spLnS K C) := ok_lnS FLn T.toTxtS
  refine F.ok sc__law_pair_right (fun vs H Q E h => ?_) (fun cdv A outer s H vs Q E hr h => ?_)
  · obtain ⟨v, t1, t2, z, g1, g2, e1, e2, taken, out, rfl, _⟩ := h
    rfl
  · obtain ⟨v, t1, t2, z, g1, g2, e1, e2, taken, out, rfl, hA, hB, h1, h2, l1, l2, hz, hnd, hto, hmany, hshape, k⟩ := h
    have hu := hu_of hr
    refine ⟨_, (pss_cons (ps_asg (pe_call G_law_pairs (hr.mono (by decide)) (by rfl) T.m_law_pairs T.k_law_pairs b_law_pairs .nil pass0 (pa_cons (pv 1) (pa_cons (pv 2) pa_nil))) (pg_tup (by rfl) (pgs_cons (pg_name (i := 4) sc__law_pair_right.nd rfl (Or.inl rfl)) (pgs_cons (pg_name (i := 5) sc__law_pair_right.nd rfl (Or.inr rfl)) pgs_nil))))
      (pss_cons (ps_if (pt_cmpR op_gt (pe_callB call_len (by rfl) T.len PySem.boot_len (pa_cons (pv 5) pa_nil)) pe_int (nomark _)) (pss_one (ps_ret (pe_cmpR (op_eqD hr.units) (pv 0) (pe_tup (pa_cons pe_str (pa_cons pe_bl pa_nil))) (nomark _)))) pss_nil)
      (pss_cons (ps_setLc (i := 6) (own := [("_law_k", 7)]) (g := gName 7) (by rfl) sc__law_pair_right.nd rfl rfl (sw_true rfl rfl rfl (by decide +kernel)) (pi_range1 (by rfl) T.range (pa_cons (pe_callB call_len (by rfl) T.len PySem.boot_len (pa_cons (pv 5) pa_nil)) pa_nil)) (blkOk_by (own := [("_law_k", 7)]) (N := N__law_pair_right) (sc := defScope s__law_pair_right) (by decide +kernel)) (fun _ _ _ _ _ => pg_name (i := 7) sc__law_pair_right.nd rfl (Or.inl rfl)) (fun _ _ _ _ _ => (pts_one (PW.pt (pw_and (pt_cmpR (op_in_seqK (K := K) rfl) (pe_ix (ix_tupK (K := K) rfl) (pe_ix (ix_listK (K := K) rfl) (pv 5) (pv 7) (fun _ _ => rfl)) pe_int (fun _ _ => rfl)) (pe_ix (ix_tupK (K := K) rfl) (pv 1) pe_int (fun _ _ => rfl)) (by rfl)) (pw_and1 (pt_cmpR op_eq (pe_cmpR (op_in_seqK (K := K) rfl) (pe_ix (ix_tupK (K := K) rfl) (pe_ix (ix_listK (K := K) rfl) (pv 5) (pv 7) (fun _ _ => rfl)) pe_int (fun _ _ => rfl)) (pe_ix (ix_tupK (K := K) rfl) (pv 2) pe_int (fun _ _ => rfl)) (by rfl)) (pv 3) (nomark _))))))) (fun _ _ _ _ _ => (pv 7)))
      (pss_cons (ps_if (PW.pt (pw_or (pt_not (pt_val (pe_callB call_isi (by rfl) T.isinstance boot_isinstance (pa_cons (pv 0) (pa_cons (pe_glob (by rfl) T.mgShape (v := .ref C) rfl) pa_nil))))) (pw_or (pt_cmpR op_ne (pe_fld (pv 0) rfl) (pe_ix ix_tup (pv 1) pe_int (fun _ _ => rfl)) (nomark _)) (pw_or1 (pt_cmpR (op_neD hr.units) (pe_fld (pv 0) rfl) (pe_callTy call_tuple_of (by rfl) T.tuple boot_tuple (pa_cons (pv 6) pa_nil)) (nomark _)))))) (pss_one (ps_ret pe_bl)) pss_nil)
      (pss_one (ps_ret (pe_and (pe_cmpR (op_eqD hr.units) (pe_fld (pv 0) rfl) (pe_callTy call_tuple_of (by rfl) T.tuple boot_tuple (pa_cons (pe_lc (own := [("_law_row", 8)]) (g := gName 8) (by rfl) sc__law_pair_right.nd (pi_list (pv 4)) (blkOk_by (own := [("_law_row", 8)]) (N := N__law_pair_right) (sc := defScope s__law_pair_right) (by decide +kernel)) (fun _ _ _ _ _ => pg_name (i := 8) sc__law_pair_right.nd rfl (Or.inl rfl)) (fun _ _ _ _ _ => pts_nil) (fun _ _ _ _ _ => (pe_callTy (call_tupleK (K := K) rfl) (by rfl) T.tuple boot_tuple (pa_cons (pv 8) pa_nil)))) pa_nil)) (nomark _)) (pe_one (pe_cmpR op_eq (pe_callB (call_lenI T.lns T.lnf GLn (hr.mono (by decide)) bLn pass0) (by rfl) T.len PySem.boot_len (pa_cons (pv 0) pa_nil)) (pe_callB call_len (by rfl) T.len PySem.boot_len (pa_cons (pv 4) pa_nil)) (nomark _)))))))))), ?_⟩
    refine ⟨_, rfl, _, rfl, t1, t2, z, g1, g2, e1, e2, rfl, hA, hB, h1, h2, l1, l2, hz, hnd, fun t H1 s1 hP => ?_⟩
    obtain ⟨F, R, as, rs, ht, hF, hat, hR, hrow⟩ := hP
    refine ⟨t, _, rfl, SqT.of ht, rfl, _, _, rfl, _, _, rfl, rfl, ?_⟩
    have las : as.length = (turns (pst g1 g2 (TL.tl z)) (TL.tl z) [Sum.inl 0, Sum.inl 0] 500).1.length := hat.1
    refine ⟨_, rfl, _, _, rfl, Or.inl ⟨_, SqL.of hF, rfl⟩, _, _, rfl, rfl, _, rfl, ite2 (fun c1 => ?_) (fun c1 => ?_)⟩
    · have c1 : 40 < as.length := by
        have := of_decide_eq_true c1
        omega
      have hgt : 40 < (turns (pst g1 g2 (TL.tl z)) (TL.tl z) [Sum.inl 0, Sum.inl 0] 40).1.length := Classical.byContradiction fun q => by
        rw [las, turns_far (by decide : 40 ≤ 500) (by omega)] at c1
        exact q c1
      obtain rfl := hmany hgt
      obtain ⟨t', rfl, ht'⟩ := hto
      refine ⟨_, rfl, by show 2 ≤ sizeLine; decide, fun q hq => ⟨_, _, dp_states ((s1.trans (same_new hq)) _ _ ht'), dp_states upd_same, shaped_two _ (by decide +kernel), shaped_two _ (by decide +kernel), ?_⟩⟩
      have := k _ (s1.trans (same_new (o := .tup [.str "states", .bl true]) hq))
      have e : PyData.eqv (.tuple [.str "states", .bool true]) (.tuple [.str "states", .bool true]) = true := by simp [PyData.eqv, PyData.eqvAll]
      rw [e]
      exact this
    · have c1 : as.length ≤ 40 := Nat.le_of_not_lt fun q => c1 (decide_eq_true (by omega))
      have hle5 : (turns (pst g1 g2 (TL.tl z)) (TL.tl z) [Sum.inl 0, Sum.inl 0] 500).1.length ≤ 40 := by omega
      have e5 := pT_same (by decide : 40 ≤ 500) hle5
      rw [e5] at hat hrow hle5
      obtain rfl := hshape hle5
      obtain ⟨o, rfl, hSh⟩ := hto
      have hdm := turns_dm (Dm := pDm g1 g2) (pst g1 g2 (TL.tl z)) (TL.tl z) [Sum.inl 0, Sum.inl 0] ⟨0, 0, Int.le_refl _, by have := h1.2; omega, Int.le_refl _, by have := h2.2; omega, rfl⟩ (pst_dm h1 h2) 40
      have hdone := turns_done (pst g1 g2 (TL.tl z)) (TL.tl z) [Sum.inl 0, Sum.inl 0] hle5
      clear hshape hmany e5 las
      unfold pT at hSh
      generalize turns (pst g1 g2 (TL.tl z)) (TL.tl z) [Sum.inl 0, Sum.inl 0] 40 = pr at hat hrow hSh hdm hdone hle5
      obtain ⟨ks, rows⟩ := pr
      dsimp only at hat hrow hSh hdm hdone hle5
      have lak : as.length = ks.length := hat.1
      have lrs : rs.length = rows.length := hrow.1
      have hgsl : (goals rows).length = rows.length := List.length_map ..
      obtain ⟨R1, G1, rs1, ht1, hR1, hrs1, hG1⟩ := hA.same s1
      obtain ⟨R2, G2, rs2, ht2, hR2, hrs2, hG2⟩ := hB.same s1
      have hSh1 := hSh.same s1
      refine ⟨_, rfl, _, _, rfl, Or.inl ⟨_, SqL.of hF, rfl⟩, as.length, rfl, by omega, by omega, fun D hD => lc_range (lo := 0) (n := as.length) (fun j H3 => H3 D = some (.lst ((goodFrom (pgT taken e1 e2) 0 (ks.take j)).map V.int)) ∧ Same H1 H3) ⟨upd_same, same_new hD⟩ ?_ ?_⟩
      · rintro j H3 hj ⟨hD3, s3⟩
        refine ⟨rfl, ?_⟩
        have hjk : j < ks.length := by omega
        have hkj : ks[j]? = some ks[j] := List.getElem?_eq_getElem hjk
        obtain ⟨va, hva⟩ : ∃ va, as[j]? = some va := ⟨_, List.getElem?_eq_getElem hj⟩
        obtain ⟨a, b, a0, a1, b0, b1, ek⟩ := hdm ks[j] (List.getElem_mem hjk)
        obtain ⟨pa, rfl, hpa⟩ := hat.2 j va _ hva hkj
        have hpa : H1 pa = some (.tup (ks[j].map kV)) := hpa
        rw [ek] at hpa
        have hpa : H1 pa = some (.tup [.int a, .int b]) := hpa
        have hpa3 := s3 _ _ hpa
        have hsn : ks.take (j + 1) = ks.take j ++ [ks[j]] := take_more hjk
        have hlt : (ks.take j).length = j := by rw [List.length_take]; omega
        have hg := goodFrom_snoc (pgT taken e1 e2) ks[j] (ks.take j) 0
        rw [hlt, Nat.zero_add] at hg
        have hgl := goodFrom_len (pgT taken e1 e2) (ks.take j) 0
        have epg : pgT taken e1 e2 ks[j] = (decide (a ∈ e1) && (decide (b ∈ e2) == taken)) := by rw [ek]; rfl
        have hif : (0 : Int) + (j : Nat) = ((j : Nat) : Int) := by omega
        refine ⟨_, rfl, _, rfl, F, _, (0 : Int) + (j : Nat), .ref pa, rfl, rfl, SqL.of (s3 _ _ hF), at_of' hif hva, pa, _, 0, .int a, rfl, rfl, SqT.of hpa3, rfl, _, rfl, t1, _, 2, .ref G1, rfl, rfl, SqT.of (s3 _ _ ht1), rfl, G1, _, rfl, Or.inl (SqL.of (s3 _ _ hG1)), rfl, flat_ints e1, ?_⟩
        refine ⟨decide (a ∈ e1), by show V.bl (inV _ _) = _; rw [inV_int], ?_⟩
        refine ite2 (fun c2 => ?_) (fun c2 => ?_)
        · refine ⟨_, rfl, _, rfl, F, _, (0 : Int) + (j : Nat), .ref pa, rfl, rfl, SqL.of (s3 _ _ hF), at_of' hif hva, pa, _, 1, .int b, rfl, rfl, SqT.of hpa3, rfl, _, rfl, t2, _, 2, .ref G2, rfl, rfl, SqT.of (s3 _ _ ht2), rfl, G2, _, rfl, Or.inl (SqL.of (s3 _ _ hG2)), rfl, flat_ints e2, _, rfl, rfl, _, rfl, ?_⟩
          rw [inV_int]
          rw [c2, Bool.true_and] at epg
          have eb : decide (V.bl (decide (b ∈ e2)) = V.bl taken) = pgT taken e1 e2 ks[j] := by
            rw [epg, Bool.eq_iff_iff, decide_eq_true_eq, beq_iff_eq, V.bl.injEq]
          refine ite2 (fun c3 => ?_) (fun c3 => ?_)
          · have c3 : pgT taken e1 e2 ks[j] = true := eb.symm.trans c3
            refine ⟨_, rfl, _, hD3, ?_, ?_, s3.put hD⟩
            · rw [List.length_map]; exact small1000 (by omega)
            · rw [upd_same, hsn, hg, if_pos c3, List.map_append, hif]
              rfl
          · have c3 : ¬ pgT taken e1 e2 ks[j] = true := fun q => c3 (eb.trans q)
            refine ⟨?_, s3⟩
            rw [hD3, hsn, hg, if_neg c3, List.append_nil]
        · have : pgT taken e1 e2 ks[j] = false := by
            rw [epg, Bool.eq_false_iff.mpr c2, Bool.false_and]
          refine ⟨?_, s3⟩
          rw [hD3, hsn, hg, this, if_neg (by decide), List.append_nil]
      · rintro H3 ⟨hD3, s3⟩
        rw [List.take_of_length_le (by omega)] at hD3
        obtain ⟨dx, R5, E5, ho, hR5, hE5⟩ := id (hSh1.same s3)
        refine ⟨_, rfl, _, _, _, _, _, rfl, .own C, .base (.ins ho T.cl T.ca T.cn T.ct T.cm), T.kc, true, rfl, ?_⟩
        refine ite2 (fun c => absurd c (by decide)) (fun _ => ?_)
        refine ⟨_, rfl, o, C, dx, _, _, rfl, ho, T.cl, T.nL, sf_letters _ _ _, _, rfl, t1, _, 0, .str z, rfl, rfl, SqT.of (s3 _ _ ht1), rfl, rfl, _, rfl, ?_⟩
        rw [decide_eq_true (rfl : V.str z = V.str z)]
        refine ite2 (fun c => absurd c (by decide)) (fun _ => ?_)
        refine ⟨_, rfl, o, C, dx, _, _, rfl, ho, T.cl, T.nG, sf_good _ _ _, _, rfl, D, _, rfl, Or.inl ⟨SqL.of hD3, fun l hl => ?_⟩⟩
        generalize goodFrom (pgT taken e1 e2) 0 ks = es at hD3 hSh1 hE5 ho ⊢
        refine ⟨intsT es, intsT es, hE5.mv (Kl.same (same_new hl)), .tup (xs := es.map V.int) (SqT.of upd_same) (dpAll_ints _ _ _), shaped_intsT _, shaped_intsT _, _, rfl, ?_⟩
        rw [eqv_intsT, decide_eq_true rfl]
        refine ite2 (fun c => absurd c (by decide)) (fun _ => ?_)
        have s8 : Same H1 (L2.upd H3 l (.tup (es.map V.int))) := s3.trans (same_new hl)
        generalize L2.upd H3 l (.tup (es.map V.int)) = H8 at s8 ⊢
        clear ho hR5 hE5 hl s3
        obtain ⟨dx, R5, E5, ho, hR5, hE5⟩ := id (hSh1.same s8)
        refine ⟨_, rfl, o, C, dx, _, _, rfl, ho, T.cl, T.nR, sf_rows _ _ _, _, rfl, R, rfl, ⟨_, SqL.of (s8 _ _ hR)⟩, fun D2 hD2 => lc_list (K := K) (a := R) (xs := rs.map V.ref) (fun j H9 => ∃ vs : List V, H9 D2 = some (.lst vs) ∧ DpAll K (L2.del H9 D2) vs (((goals rows).take j).map intsT) ∧ Same H8 H9) ⟨[], upd_same, .nil, same_new hD2⟩ (fun j H9 _ ⟨_, _, _, s9⟩ => SqL.of (s9 _ _ (s8 _ _ hR))) ?_ ?_⟩
        · rintro j x H9 hx ⟨vs, hD9, hd9, s9⟩
          rw [List.getElem?_map] at hx
          obtain ⟨rj, hrj, rfl⟩ := Option.map_eq_some_iff.mp hx
          have hj : j < rows.length := by
            have := (List.getElem?_eq_some_iff.mp hrj).1
            omega
          have hjg : j < (goals rows).length := by omega
          have egs : (goals rows)[j] = rows[j].map fun (n : Nat) => (n : Int) := List.getElem_map ..
          have hrow9 : H9 rj = some (.lst (((goals rows)[j]).map V.int)) := by
            have := s9 _ _ (s8 _ _ (hrow.2 j rj _ hrj (List.getElem?_eq_getElem hj)))
            rw [egs, List.map_map]
            exact this
          refine ⟨rfl, ?_⟩
          refine lcYes ?_
          have hvl : vs.length < sizeLine := by rw [hd9.length, List.length_map, List.length_take]; exact small1000 (by omega)
          refine ⟨_, rfl, rj, _, rfl, Or.inl ⟨SqL.of hrow9, fun q hq => ⟨vs, ?_, hvl, vs ++ [.ref q], upd_same, ?_, ?_⟩⟩⟩
          · rw [upd_ne (ne_of_none hD9 hq)]; exact hD9
          · have ntD : q ≠ D2 := (ne_of_none hD9 hq).symm
            have e0 : Kl (L2.del H9 D2) (L2.del (L2.upd (L2.upd H9 q (.tup (((goals rows)[j]).map V.int))) D2 (.lst (vs ++ [.ref q]))) D2) := fun b o e _ => by
              obtain ⟨h1, h2⟩ := del_some e
              rw [del_ne h1, upd_ne h1, upd_ne (ne_of_none h2 hq)]
              exact h2
            rw [take_more hjg, List.map_append]
            refine (hd9.mv e0).snoc (.tup (xs := ((goals rows)[j]).map V.int) (SqT.of ?_) (dpAll_ints K _ _))
            rw [del_ne ntD, upd_ne ntD, upd_same]
          · exact (s9.trans (same_new hq)).put hD2
        rintro H9 ⟨vs, hD9, hd9, s9⟩
        rw [List.length_map, lrs, List.take_of_length_le (by omega)] at hd9
        refine ⟨D2, vs, rfl, Or.inl ⟨SqL.of hD9, fun q hq => ?_⟩⟩
        have s10 : Same H8 (L2.upd H9 q (.tup vs)) := s9.trans (same_new hq)
        have hT10 : Dp K (L2.upd H9 q (.tup vs)) (.ref q) (rowsIT (goals rows)) := .tup (SqT.of upd_same) (hd9.mv ((Kl.undel _ _).trans (Kl.same (same_new hq))))
        refine ⟨rowsIT (goals rows), rowsIT (goals rows), hR5.mv (Kl.same s10), hT10, shaped_rowsIT _, shaped_rowsIT _, ?_⟩
        rw [eqv_rowsIT, decide_eq_true rfl]
        refine ⟨_, rfl, ite2 (fun _ => ?_) (fun c => absurd rfl c)⟩
        have s19 := s8.trans s10
        generalize L2.upd H9 q (.tup vs) = H10 at s10 s19 ⊢
        refine ⟨_, rfl, o, dx, _, rfl, s10 _ _ ho, o, z, goals rows, es, rfl, hSh1.same s19, fun H11 s11 => ⟨(goals rows).length, rfl, Nat.le_of_lt (small1000 (by omega)), ?_⟩⟩
        have s111 := s19.trans s11
        refine ⟨_, rfl, _, _, rfl, Or.inl ⟨_, SqL.of (s111 _ _ hR), rfl⟩, rfl, ?_⟩
        rw [show decide (V.int ((goals rows).length : Int) = V.int ((rs.map V.ref).length : Int)) = true from decide_eq_true (by rw [List.length_map, lrs, hgsl])]
        exact k _ (s1.trans s111)
end
end Vf
set_option Elab.async false
set_option linter.all false
set_option maxRecDepth 100000
set_option maxHeartbeats 4000000
namespace Vf
open PySem L2 PyProof.Rows
open NdefX LamX
abbrev s_law : Stmt := top 39
abbrev N_law : List Str := ["_law_script", "_law_pen_here", "_law_turn", "_law_letters_here", "_law_one", "_law_other", "_law_joined", "_law_less", "_law_columns", "_law_column_here", "_law_has_here", "_law_there", "_law_none", "_law_strange", "_law_acts", "_law_act", "_law_mine", "_law_odd", "_law_yours", "_law_k", "_law_word"]
abbrev P_law : List Str := ["_law_script"]
theorem sc_law : FnScope N_law P_law (defScope s_law) := ⟨rfl, rfl, rfl, by decide +kernel, rfl, by decide +kernel, by decide +kernel⟩

abbrev l_law_l0 : Expr := (argN (stVal (forBody ((defBody s_law).getD 1 (.Pass ⟨0, 0, 0, 0⟩)) 3)) 0)
abbrev N_law_l0 : List Str := ["_law_mine", "_law_yours"]
abbrev P_law_l0 : List Str := []
abbrev R_law_l0 : List Str := ["_law_mine", "_law_yours"]
theorem ns_law_l0 : NScope N_law_l0 P_law_l0 R_law_l0 (lamScope l_law_l0) := nscope_by (by decide +kernel)
theorem nc_law_l0 : cellsB (defScope s_law) (lamScope l_law_l0) = true := by decide +kernel
theorem nr_law_l0 : ∀ y ∈ R_law_l0, (y, NameKind.free) ∈ (lamScope l_law_l0).names := by decide +kernel

abbrev l_law_l1 : Expr := (argN (stVal (forBody ((defBody s_law).getD 1 (.Pass ⟨0, 0, 0, 0⟩)) 4)) 0)
abbrev N_law_l1 : List Str := ["_law_mine", "_law_yours"]
abbrev P_law_l1 : List Str := []
abbrev R_law_l1 : List Str := ["_law_mine", "_law_yours"]
theorem ns_law_l1 : NScope N_law_l1 P_law_l1 R_law_l1 (lamScope l_law_l1) := nscope_by (by decide +kernel)
theorem nc_law_l1 : cellsB (defScope s_law) (lamScope l_law_l1) = true := by decide +kernel
theorem nr_law_l1 : ∀ y ∈ R_law_l1, (y, NameKind.free) ∈ (lamScope l_law_l1).names := by decide +kernel

abbrev l_law_l2 : Expr := (lstN (stVal (forBody ((defBody s_law).getD 1 (.Pass ⟨0, 0, 0, 0⟩)) 12)) 0)
abbrev N_law_l2 : List Str := ["_law_mine", "_law_odd"]
abbrev P_law_l2 : List Str := []
abbrev R_law_l2 : List Str := ["_law_mine", "_law_odd"]
theorem ns_law_l2 : NScope N_law_l2 P_law_l2 R_law_l2 (lamScope l_law_l2) := nscope_by (by decide +kernel)
theorem nc_law_l2 : cellsB (defScope s_law) (lamScope l_law_l2) = true := by decide +kernel
theorem nr_law_l2 : ∀ y ∈ R_law_l2, (y, NameKind.free) ∈ (lamScope l_law_l2).names := by decide +kernel

abbrev l_law_l3 : Expr := (argN (stExp (forBody ((defBody s_law).getD 1 (.Pass ⟨0, 0, 0, 0⟩)) 13)) 0)
abbrev N_law_l3 : List Str := ["_law_mine", "_law_odd"]
abbrev P_law_l3 : List Str := []
abbrev R_law_l3 : List Str := ["_law_mine", "_law_odd"]
theorem ns_law_l3 : NScope N_law_l3 P_law_l3 R_law_l3 (lamScope l_law_l3) := nscope_by (by decide +kernel)
theorem nc_law_l3 : cellsB (defScope s_law) (lamScope l_law_l3) = true := by decide +kernel
theorem nr_law_l3 : ∀ y ∈ R_law_l3, (y, NameKind.free) ∈ (lamScope l_law_l3).names := by decide +kernel

abbrev l_law_l4 : Expr := (argN (stExp (forBody ((defBody s_law).getD 1 (.Pass ⟨0, 0, 0, 0⟩)) 14)) 0)
abbrev N_law_l4 : List Str := ["_law_mine", "_law_odd"]
abbrev P_law_l4 : List Str := []
abbrev R_law_l4 : List Str := ["_law_mine", "_law_odd"]
theorem ns_law_l4 : NScope N_law_l4 P_law_l4 R_law_l4 (lamScope l_law_l4) := nscope_by (by decide +kernel)
theorem nc_law_l4 : cellsB (defScope s_law) (lamScope l_law_l4) = true := by decide +kernel
theorem nr_law_l4 : ∀ y ∈ R_law_l4, (y, NameKind.free) ∈ (lamScope l_law_l4).names := by decide +kernel

theorem tabsN_kp {T : List NTab} {p : Addr} {H H' : Hp} {kvs : List (Key × V)} (t : TabsN T H) (k : Kp p H H') (hp : H p = some (.dK kvs)) : TabsN T H' := fun x hx => by
  obtain ⟨ps, h1, h2, h3⟩ := t x hx
  refine ⟨ps, k _ _ h1 (ne_of h1 hp (by intro z; cases z)), h2, fun pos cv hc => ?_⟩
  obtain ⟨c, e1, e2⟩ := h3 pos cv hc
  exact ⟨c, e1, k _ _ e2 (ne_of e2 hp (by intro z; cases z))⟩
theorem Pen.sameT {T : List NTab} {H H' : Hp} {p c : Addr} {n : Nat} (P : Pen H p c n) (s : SameT T H H') : Pen H' p c n := by
  obtain ⟨a, l, cs, ⟨q1, q2, q3⟩, r⟩ := P
  exact ⟨a, l, cs, ⟨s.ext _ _ q1 (fun _ z => nomatch z), s.ext _ _ q2 (fun _ z => nomatch z), q3⟩, r⟩
theorem ShapeAt.kp {K : PySem.W.Frag} {C o p : Addr} {H H' : Hp} {z : Str} {rs : List (List Int)} {es : List Int} {kvs : List (Key × V)} (c : ShapeAt K C H o z rs es) (k : Kp p H H') (hp : H p = some (.dK kvs)) : ShapeAt K C H' o z rs es := by
  obtain ⟨dx, R, E, h1, h2, h3⟩ := c
  exact ⟨dx, R, E, k _ _ h1 (L2.ne_of h1 hp (by intro z; cases z)), h2.mv (Kl.kp k hp), h3.mv (Kl.kp k hp)⟩
theorem ShapeAt.sameT {K : PySem.W.Frag} {NT : List NTab} {C o : Addr} {H H' : Hp} {z : Str} {rs : List (List Int)} {es : List Int} (c : ShapeAt K C H o z rs es) (k : SameT NT H H') : ShapeAt K C H' o z rs es := by
  obtain ⟨dx, R, E, h1, h2, h3⟩ := c
  exact ⟨dx, R, E, k.ext _ _ h1 (fun _ z => nomatch z), h2.mv (kl_ext k.ext), h3.mv (kl_ext k.ext)⟩
theorem num_zero {κ : Type} [DecidableEq κ] {ks : List κ} {k : κ} (h : ks[0]? = some k) : num ks k = 0 := Nat.le_zero.mp (num_le h)
theorem stepG_full {κ : Type} [DecidableEq κ] {st : κ → Nat → κ} {L : List Nat} {s0 : κ} {ks : List κ} {rows : List (List Nat)} (F : Full st L s0 ks rows) {k : κ} (hk : k ∈ ks) {c : Nat} (hc : c ∈ L) : stepG (goals rows) L (num ks k : Nat) c = (num ks (st k c) : Nat) ∧ st k c ∈ ks := by
  have h1 := num_get hk
  have h2 := num_lt hk
  have hr : num ks k < rows.length := by rw [F.len]; exact h2
  obtain ⟨m, h3, h4, h5⟩ := F.row (num ks k) _ (List.getElem?_eq_getElem hr)
  rw [h1] at h3
  obtain rfl : k = m := Option.some.inj h3
  have g1 : ((num ks k : Nat) : Int).toNat < (goals rows).length := by unfold goals; rw [List.length_map, Int.toNat_natCast]; exact hr
  have e1 : (goals rows)[((num ks k : Nat) : Int).toNat]'g1 = L.map fun c => ((num ks (st k c) : Nat) : Int) := by
    have : (goals rows)[num ks k]? = some (L.map fun c => ((num ks (st k c) : Nat) : Int)) := by
      unfold goals
      rw [List.getElem?_map, List.getElem?_eq_getElem hr, h4]
      show some (List.map _ (List.map _ L)) = _
      rw [List.map_map]
      rfl
    rw [List.getElem?_eq_getElem (by simpa using g1)] at this
    exact Option.some.inj this
  have g2 : L.idxOf c < ((goals rows)[((num ks k : Nat) : Int).toNat]'g1).length := by rw [e1, List.length_map]; exact idx_lt hc
  refine ⟨?_, h5 c hc⟩
  rw [stepG_eq g1 g2]
  simp only [e1, List.getElem_map]
  rw [List.getElem_idxOf (idx_lt hc)]
theorem walkG_full {κ : Type} [DecidableEq κ] {st : κ → Nat → κ} {L : List Nat} {s0 : κ} {ks : List κ} {rows : List (List Nat)} (F : Full st L s0 ks rows) : ∀ (y : List Nat) (k : κ), k ∈ ks → (∀ c ∈ y, c ∈ L) → walkG (goals rows) L (num ks k : Nat) y = (num ks (y.foldl st k) : Nat) ∧ y.foldl st k ∈ ks
  | [], k, hk, _ => ⟨rfl, hk⟩
  | c :: y, k, hk, hy => by
    obtain ⟨e1, e2⟩ := stepG_full F hk (hy c List.mem_cons_self)
    have ih := walkG_full F y (st k c) e2 fun d hd => hy d (List.mem_cons_of_mem _ hd)
    show walkG (goals rows) L (stepG (goals rows) L (num ks k : Nat) c) y = _ ∧ _
    rw [e1]
    exact ih
theorem strange_of {z y : Str} (h : ∀ c ∈ TL.tl y, c ∈ TL.tl z) : strange z y = none := List.findIdx?_eq_none_iff.mpr fun x hx => by simpa using h x hx
theorem has_made {κ : Type} [DecidableEq κ] {st : κ → Nat → κ} {L : List Nat} {s0 : κ} {ks : List κ} {rows : List (List Nat)} (F : Full st L s0 ks rows) (gd : κ → Bool) {y : List Nat} (hy : ∀ c ∈ y, c ∈ L) : decide (walkG (goals rows) L 0 y ∈ goodFrom gd 0 ks) = gd (y.foldl st s0) := by
  have hk : s0 ∈ ks := List.mem_of_getElem? F.s0_
  obtain ⟨e1, e2⟩ := walkG_full F y _ hk hy
  rw [num_zero F.s0_] at e1
  have e1 : walkG (goals rows) L 0 y = (num ks (y.foldl st s0) : Nat) := e1
  have := goodFrom_mem gd ks 0 (num ks (y.foldl st s0)) (y.foldl st s0) (num_get e2)
  rw [Nat.zero_add] at this
  rw [e1, Bool.eq_iff_iff, decide_eq_true_eq]
  exact this
theorem made_good {κ : Type} [DecidableEq κ] {st : κ → Nat → κ} {z : Str} {s0 : κ} {n : Nat} (h : (turns st (TL.tl z) s0 n).1.length ≤ n) : GoodRows z.length (goals (turns st (TL.tl z) s0 n).2) := by
  have hpos : 0 < (turns st (TL.tl z) s0 n).1.length := Nat.lt_of_lt_of_le (Nat.zero_lt_one) (turns_pre st (TL.tl z) s0 (Nat.zero_le n)).length_le
  exact goodRows_of (turns_done st (TL.tl z) s0 h) hpos (by rw [TL.len_tl]; exact turns_all st (TL.tl z) s0 n)
/-- which answer comes of two shapes -/
inductive PairOut (z1 z2 : Str) (g1 g2 : List (List Int)) (gd : List Key → Bool) : TOut → Prop where
  | unlike (h : z1 ≠ z2) : PairOut z1 z2 g1 g2 gd .unlike
  | fine (h : z1 = z2) (h1 : GoodRows z1.length g1) (h2 : GoodRows z1.length g2) (hl : (pT g1 g2 z1 40).1.length ≤ 40) : PairOut z1 z2 g1 g2 gd (.shape z1 (goals (pT g1 g2 z1 40).2) (goodFrom gd 0 (pT g1 g2 z1 40).1))
  | many (h : z1 = z2) (h1 : GoodRows z1.length g1) (h2 : GoodRows z1.length g2) (hl : 40 < (pT g1 g2 z1 40).1.length) : PairOut z1 z2 g1 g2 gd .many
theorem pair_ask {K : PySem.W.Frag} {NT : List NTab} {C CU CT : Addr} {z1 z2 : Str} {g1 g2 : List (List Int)} {gd : List Key → Bool} {out : TOut} {H : Hp} {Q : VK} {E : XK} (ho : PairOut z1 z2 g1 g2 gd out) (k : spAskT K NT C CU CT out [] H Q E) :
    (z1 ≠ z2 → ∀ H', SameT NT H H' → E (.ref CU) none H') ∧
    (z1 = z2 → GoodRows z1.length g1 ∧ GoodRows z1.length g2 ∧ MadeS K NT C z1 (pst g1 g2 (TL.tl z1)) gd [Sum.inl 0, Sum.inl 0] H Q ∧
      (40 < (turns (pst g1 g2 (TL.tl z1)) (TL.tl z1) [Sum.inl 0, Sum.inl 0] 40).1.length → ∀ d H', RaisedT NT H H' d "what" (.str "states") → E (.ref CT) (some d) H')) := by
  obtain ⟨_, hT, k⟩ := k
  cases ho with
  | unlike h => exact ⟨fun _ H' s => k H' s, fun e => absurd e h⟩
  | fine h h1 h2 hl => exact ⟨fun n => absurd h n, fun _ => ⟨h1, h2, fun o H' s hS _ _ => k o H' s hS, fun q => absurd (Nat.lt_of_lt_of_le q hl) (Nat.lt_irrefl _)⟩⟩
  | many h h1 h2 hl => exact ⟨fun n => absurd h n, fun _ => ⟨h1, h2, fun o H' s _ _ q => absurd (Nat.lt_of_lt_of_le hl q) (Nat.lt_irrefl _), fun _ => k⟩⟩
section
variable {P : Program} {w : World} {K : PySem.W.Frag} {mg : Str → Option Value} {base : Heap}
theorem lok_l0 {NT : List NTab} {fB0 C CU CT : Addr} {fdB0 : FuncData} {o1 o2 : Addr} {z1 z2 : Str} {g1 g2 : List (List Int)} {e1 e2 : List Int} {out : TOut} {fg c' : Addr} {cl : List (Str × Addr)} {q : Str} (mboth : mg "both" = some (.ref fB0)) (kboth : PySem.W.keepIn K (.ref fB0) = true) (Gboth : FnOk P w K mg base (L2.CX P w) 12 fB0 fdB0 P_both (spBoth K NT C CT CU)) (bboth : Binds K fdB0 P_both [])
    (hz : z1.length ≤ 26) (ho : PairOut z1 z2 g1 g2 (pgB e1 e2) out) :
    LOk P w K mg base (L2.CX P w) 13 fg (LF l_law_l0 q cl c') (lamBody l_law_l0) P_law_l0 R_law_l0 (fun ws vs H Q E => ws = [some (.ref o1), some (.ref o2)] ∧ ShapeAt K C H o1 z1 g1 e1 ∧ ShapeAt K C H o2 z2 g2 e2 ∧ spAskT K NT C CU CT out vs H Q E) := by
  refine lok_of ns_law_l0 (fun pm ctv us hl => match us, hl with | [], _ => rfl) (fun ws vs H Q E h => ?_) (fun A outer s H vs ws Q E hr hl h => ?_)
  · obtain ⟨_, _, _, rfl, _⟩ := h
    rfl
  · obtain ⟨rfl, hC1, hC2, k⟩ := h
    obtain ⟨rfl, hT, _⟩ := id k
    have passL : Passes (L2.CX P w) (ncx (L2.CX P w) P w K mg base N_law_l0 (LF l_law_l0 q cl c') fg A outer s H E) E := passes_call (takes_of rfl rfl rfl rfl) (fun _ _ _ _ h => h)
    refine ⟨_, (pe_call Gboth (hr.mono (by decide)) (by rfl) mboth kboth bboth .nil passL (pa_cons (pv 0) (pa_cons (pv 1) pa_nil))), ?_⟩
    exact ⟨_, rfl, _, rfl, o1, o2, z1, z2, g1, g2, e1, e2, rfl, hC1, hC2, hz, hT, pair_ask ho k⟩
theorem lok_l1 {NT : List NTab} {fB0 C CU CT : Addr} {fdB0 : FuncData} {o1 o2 : Addr} {z1 z2 : Str} {g1 g2 : List (List Int)} {e1 e2 : List Int} {out : TOut} {fg c' : Addr} {cl : List (Str × Addr)} {q : Str} (mwithout : mg "without" = some (.ref fB0)) (kwithout : PySem.W.keepIn K (.ref fB0) = true) (Gwithout : FnOk P w K mg base (L2.CX P w) 12 fB0 fdB0 P_without (spWithout K NT C CT CU)) (bwithout : Binds K fdB0 P_without [])
    (hz : z1.length ≤ 26) (ho : PairOut z1 z2 g1 g2 (pgW e1 e2) out) :
    LOk P w K mg base (L2.CX P w) 13 fg (LF l_law_l1 q cl c') (lamBody l_law_l1) P_law_l1 R_law_l1 (fun ws vs H Q E => ws = [some (.ref o1), some (.ref o2)] ∧ ShapeAt K C H o1 z1 g1 e1 ∧ ShapeAt K C H o2 z2 g2 e2 ∧ spAskT K NT C CU CT out vs H Q E) := by
  refine lok_of ns_law_l1 (fun pm ctv us hl => match us, hl with | [], _ => rfl) (fun ws vs H Q E h => ?_) (fun A outer s H vs ws Q E hr hl h => ?_)
  · obtain ⟨_, _, _, rfl, _⟩ := h
    rfl
  · obtain ⟨rfl, hC1, hC2, k⟩ := h
    obtain ⟨rfl, hT, _⟩ := id k
    have passL : Passes (L2.CX P w) (ncx (L2.CX P w) P w K mg base N_law_l1 (LF l_law_l1 q cl c') fg A outer s H E) E := passes_call (takes_of rfl rfl rfl rfl) (fun _ _ _ _ h => h)
    refine ⟨_, (pe_call Gwithout (hr.mono (by decide)) (by rfl) mwithout kwithout bwithout .nil passL (pa_cons (pv 0) (pa_cons (pv 1) pa_nil))), ?_⟩
    exact ⟨_, rfl, _, rfl, o1, o2, z1, z2, g1, g2, e1, e2, rfl, hC1, hC2, hz, hT, pair_ask ho k⟩
theorem lok_l2 {NT : List NTab} {fB0 C CU CT : Addr} {fdB0 : FuncData} {o1 o2 : Addr} {z1 z2 : Str} {g1 g2 : List (List Int)} {e1 e2 : List Int} {out : TOut} {fg c' : Addr} {cl : List (Str × Addr)} {q : Str} (mboth : mg "both" = some (.ref fB0)) (kboth : PySem.W.keepIn K (.ref fB0) = true) (Gboth : FnOk P w K mg base (L2.CX P w) 12 fB0 fdB0 P_both (spBoth K NT C CT CU)) (bboth : Binds K fdB0 P_both [])
    (hz : z1.length ≤ 26) (ho : PairOut z1 z2 g1 g2 (pgB e1 e2) out) :
    LOk P w K mg base (L2.CX P w) 13 fg (LF l_law_l2 q cl c') (lamBody l_law_l2) P_law_l2 R_law_l2 (fun ws vs H Q E => ws = [some (.ref o1), some (.ref o2)] ∧ ShapeAt K C H o1 z1 g1 e1 ∧ ShapeAt K C H o2 z2 g2 e2 ∧ spAskT K NT C CU CT out vs H Q E) := by
  refine lok_of ns_law_l2 (fun pm ctv us hl => match us, hl with | [], _ => rfl) (fun ws vs H Q E h => ?_) (fun A outer s H vs ws Q E hr hl h => ?_)
  · obtain ⟨_, _, _, rfl, _⟩ := h
    rfl
  · obtain ⟨rfl, hC1, hC2, k⟩ := h
    obtain ⟨rfl, hT, _⟩ := id k
    have passL : Passes (L2.CX P w) (ncx (L2.CX P w) P w K mg base N_law_l2 (LF l_law_l2 q cl c') fg A outer s H E) E := passes_call (takes_of rfl rfl rfl rfl) (fun _ _ _ _ h => h)
    refine ⟨_, (pe_call Gboth (hr.mono (by decide)) (by rfl) mboth kboth bboth .nil passL (pa_cons (pv 0) (pa_cons (pv 1) pa_nil))), ?_⟩
    exact ⟨_, rfl, _, rfl, o1, o2, z1, z2, g1, g2, e1, e2, rfl, hC1, hC2, hz, hT, pair_ask ho k⟩
theorem lok_l3 {NT : List NTab} {fB0 C CU CT : Addr} {fdB0 : FuncData} {o1 o2 : Addr} {z1 z2 : Str} {g1 g2 : List (List Int)} {e1 e2 : List Int} {out : TOut} {fg c' : Addr} {cl : List (Str × Addr)} {q : Str} (mwithout : mg "without" = some (.ref fB0)) (kwithout : PySem.W.keepIn K (.ref fB0) = true) (Gwithout : FnOk P w K mg base (L2.CX P w) 12 fB0 fdB0 P_without (spWithout K NT C CT CU)) (bwithout : Binds K fdB0 P_without [])
    (hz : z1.length ≤ 26) (ho : PairOut z1 z2 g1 g2 (pgW e1 e2) out) :
    LOk P w K mg base (L2.CX P w) 13 fg (LF l_law_l3 q cl c') (lamBody l_law_l3) P_law_l3 R_law_l3 (fun ws vs H Q E => ws = [some (.ref o2), some (.ref o1)] ∧ ShapeAt K C H o1 z1 g1 e1 ∧ ShapeAt K C H o2 z2 g2 e2 ∧ spAskT K NT C CU CT out vs H Q E) := by
  refine lok_of ns_law_l3 (fun pm ctv us hl => match us, hl with | [], _ => rfl) (fun ws vs H Q E h => ?_) (fun A outer s H vs ws Q E hr hl h => ?_)
  · obtain ⟨_, _, _, rfl, _⟩ := h
    rfl
  · obtain ⟨rfl, hC1, hC2, k⟩ := h
    obtain ⟨rfl, hT, _⟩ := id k
    have passL : Passes (L2.CX P w) (ncx (L2.CX P w) P w K mg base N_law_l3 (LF l_law_l3 q cl c') fg A outer s H E) E := passes_call (takes_of rfl rfl rfl rfl) (fun _ _ _ _ h => h)
    refine ⟨_, (pe_call Gwithout (hr.mono (by decide)) (by rfl) mwithout kwithout bwithout .nil passL (pa_cons (pv 1) (pa_cons (pv 0) pa_nil))), ?_⟩
    exact ⟨_, rfl, _, rfl, o1, o2, z1, z2, g1, g2, e1, e2, rfl, hC1, hC2, hz, hT, pair_ask ho k⟩
theorem lok_l4 {NT : List NTab} {fB0 C CU CT : Addr} {fdB0 : FuncData} {o1 o2 : Addr} {z1 z2 : Str} {g1 g2 : List (List Int)} {e1 e2 : List Int} {out : TOut} {fg c' : Addr} {cl : List (Str × Addr)} {q : Str} (mwithout : mg "without" = some (.ref fB0)) (kwithout : PySem.W.keepIn K (.ref fB0) = true) (Gwithout : FnOk P w K mg base (L2.CX P w) 12 fB0 fdB0 P_without (spWithout K NT C CT CU)) (bwithout : Binds K fdB0 P_without [])
    (hz : z1.length ≤ 26) (ho : PairOut z1 z2 g1 g2 (pgW e1 e2) out) :
    LOk P w K mg base (L2.CX P w) 13 fg (LF l_law_l4 q cl c') (lamBody l_law_l4) P_law_l4 R_law_l4 (fun ws vs H Q E => ws = [some (.ref o1), some (.ref o2)] ∧ ShapeAt K C H o1 z1 g1 e1 ∧ ShapeAt K C H o2 z2 g2 e2 ∧ spAskT K NT C CU CT out vs H Q E) := by
  refine lok_of ns_law_l4 (fun pm ctv us hl => match us, hl with | [], _ => rfl) (fun ws vs H Q E h => ?_) (fun A outer s H vs ws Q E hr hl h => ?_)
  · obtain ⟨_, _, _, rfl, _⟩ := h
    rfl
  · obtain ⟨rfl, hC1, hC2, k⟩ := h
    obtain ⟨rfl, hT, _⟩ := id k
    have passL : Passes (L2.CX P w) (ncx (L2.CX P w) P w K mg base N_law_l4 (LF l_law_l4 q cl c') fg A outer s H E) E := passes_call (takes_of rfl rfl rfl rfl) (fun _ _ _ _ h => h)
    refine ⟨_, (pe_call Gwithout (hr.mono (by decide)) (by rfl) mwithout kwithout bwithout .nil passL (pa_cons (pv 0) (pa_cons (pv 1) pa_nil))), ?_⟩
    exact ⟨_, rfl, _, rfl, o1, o2, z1, z2, g1, g2, e1, e2, rfl, hC1, hC2, hz, hT, pair_ask ho k⟩
end
end Vf
set_option Elab.async false
set_option linter.all false
set_option maxRecDepth 100000
set_option maxHeartbeats 4000000
namespace Vf
open PySem L2 PyProof.Rows
open NdefX LamX
abbrev Q_law : Str := (envOfC "law" (defScope s_law) 0 0 .none).qual
structure TxtZX (K : PySem.W.Frag) (mg : Str → Option Value) (C fPen fLe fSS fMS fTe fPR fCn fHD fBo fWi : Addr) : Prop where
  m_law_pen : mg "_law_pen" = some (.ref fPen)
  k_law_pen : PySem.W.keepIn K (.ref fPen) = true
  m_law_letters : mg "_law_letters" = some (.ref fLe)
  k_law_letters : PySem.W.keepIn K (.ref fLe) = true
  m_law_some_shape : mg "_law_some_shape" = some (.ref fSS)
  k_law_some_shape : PySem.W.keepIn K (.ref fSS) = true
  m_law_made_shape : mg "_law_made_shape" = some (.ref fMS)
  k_law_made_shape : PySem.W.keepIn K (.ref fMS) = true
  m_law_told : mg "_law_told" = some (.ref fTe)
  k_law_told : PySem.W.keepIn K (.ref fTe) = true
  m_law_pair_right : mg "_law_pair_right" = some (.ref fPR)
  k_law_pair_right : PySem.W.keepIn K (.ref fPR) = true
  m_law_column : mg "_law_column" = some (.ref fCn)
  k_law_column : PySem.W.keepIn K (.ref fCn) = true
  m_law_has : mg "_law_has" = some (.ref fHD)
  k_law_has : PySem.W.keepIn K (.ref fHD) = true
  mboth : mg "both" = some (.ref fBo)
  kboth : PySem.W.keepIn K (.ref fBo) = true
  mwithout : mg "without" = some (.ref fWi)
  kwithout : PySem.W.keepIn K (.ref fWi) = true
  min : mg "min" = none
  kt : PySem.W.kitOne K (.type "tuple") (.ref C) = some false
structure TxtAll (K : PySem.W.Frag) (mg : Str → Option Value) (fD fP fPen fLe fSS fMS fTe fPR fCn fHD fBo fWi C fCG fCD B CB fB' fSP fSt fEq fLn : Addr) : Prop extends TxtP K mg fD fP, TxtZX K mg C fPen fLe fSS fMS fTe fPR fCn fHD fBo fWi, TxtSM K mg C fCG fCD B CB fB' fSP fSt fEq fLn
theorem pair_out {z : Str} {g1 g2 : List (List Int)} {e1 e2 : List Int} (h1 : GoodRows z.length g1) (h2 : GoodRows z.length g2) (taken : Bool) (gd : List Key → Bool) (hgd : ∀ k, pDm g1 g2 k → gd k = pgT taken e1 e2 k) :
    ∃ out, PairOut z z g1 g2 gd out ∧ (40 < (pT g1 g2 z 40).1.length → out = .many) ∧ ((pT g1 g2 z 40).1.length ≤ 40 → out = .shape z (goals (pT g1 g2 z 40).2) (goodFrom (pgT taken e1 e2) 0 (pT g1 g2 z 40).1)) := by
  by_cases hl : (pT g1 g2 z 40).1.length ≤ 40
  · refine ⟨_, .fine rfl h1 h2 hl, fun q => absurd hl (by omega), fun _ => ?_⟩
    rw [goodFrom_congr _ 0 fun k hk => hgd k (turns_dm (Dm := pDm g1 g2) (pst g1 g2 (TL.tl z)) (TL.tl z) [Sum.inl 0, Sum.inl 0] ⟨0, 0, Int.le_refl _, by have := h1.2; omega, Int.le_refl _, by have := h2.2; omega, rfl⟩ (pst_dm h1 h2) 40 k hk)]
  · exact ⟨_, .many rfl h1 h2 (by omega), fun _ => rfl, fun q => absurd q hl⟩
theorem pgB_eq {g1 g2 : List (List Int)} {e1 e2 a1 a2 : List Int} (h1 : ∀ x, x ∈ a1 ↔ x ∈ e1) (h2 : ∀ x, x ∈ a2 ↔ x ∈ e2) : ∀ k, pDm g1 g2 k → pgB a1 a2 k = pgT true e1 e2 k := fun k hk => by
  rw [pgT_both e1 e2 hk]
  obtain ⟨a, b, _, _, _, _, rfl⟩ := hk
  show (decide (a ∈ a1) && decide (b ∈ a2)) = (decide (a ∈ e1) && decide (b ∈ e2))
  simp only [h1, h2]
theorem pgW_eq {g1 g2 : List (List Int)} {e1 e2 a1 a2 : List Int} (h1 : ∀ x, x ∈ a1 ↔ x ∈ e1) (h2 : ∀ x, x ∈ a2 ↔ x ∈ e2) : ∀ k, pDm g1 g2 k → pgW a1 a2 k = pgT false e1 e2 k := fun k hk => by
  rw [pgT_without e1 e2 hk]
  obtain ⟨a, b, _, _, _, _, rfl⟩ := hk
  show (decide (a ∈ a1) && !decide (b ∈ a2)) = (decide (a ∈ e1) && !decide (b ∈ e2))
  simp only [h1, h2]
/-- both halves of the same machine: only a state with itself -/
theorem diag_le {gs : List (List Int)} {z : Str} (h : GoodRows z.length gs) (N : Nat) : (pT gs gs z N).1.length ≤ gs.length ∧ ∀ k ∈ (pT gs gs z N).1, ∃ a : Int, 0 ≤ a ∧ a < gs.length ∧ k = [.inl a, .inl a] := by
  have hd := turns_dm (Dm := fun k => ∃ a : Int, 0 ≤ a ∧ a < gs.length ∧ k = [Sum.inl a, Sum.inl a]) (pst gs gs (TL.tl z)) (TL.tl z) [Sum.inl 0, Sum.inl 0] ⟨0, Int.le_refl _, by have := h.2; omega, rfl⟩ (fun k c ⟨a, a0, a1, e⟩ hc => by
    subst e
    rw [TL.len_tl] at h
    obtain ⟨x0, x1⟩ := stepG_ok h a0 a1 hc
    exact ⟨_, x0, x1, rfl⟩) N
  have hn := turns_nodup (pst gs gs (TL.tl z)) (TL.tl z) [Sum.inl 0, Sum.inl 0] N
  refine ⟨?_, hd⟩
  generalize (turns (pst gs gs (TL.tl z)) (TL.tl z) [Sum.inl 0, Sum.inl 0] N).1 = ks at hd hn ⊢
  have := nodup_le (ys := (List.range gs.length).map fun (a : Nat) => ([.inl (a : Int), .inl (a : Int)] : List Key)) hn fun k hk => by
    obtain ⟨a, a0, a1, rfl⟩ := hd k hk
    exact List.mem_map.mpr ⟨a.toNat, List.mem_range.mpr (by omega), by rw [Int.toNat_of_nonneg a0]⟩
  rw [List.length_map, List.length_range] at this
  exact this
/-- what is of both, is not of the one without the other -/
theorem apart_no {e1 e2 : List Int} {ks : List (List Key)} (a : Int) (ha : a ∈ goodFrom (pgT false e1 e2) 0 ks) : ¬ a ∈ goodFrom (pgT true e1 e2) 0 ks := fun hb => by
  have h1 := goodFrom_ge _ ks 0 a ha
  obtain ⟨n, rfl⟩ : ∃ n : Nat, a = n := ⟨a.toNat, by omega⟩
  have hn : n < ks.length := by omega
  have e := List.getElem?_eq_getElem hn
  have x1 := (goodFrom_mem (pgT false e1 e2) ks 0 n ks[n] e).mp (by rw [Nat.zero_add]; exact ha)
  have x2 := (goodFrom_mem (pgT true e1 e2) ks 0 n ks[n] e).mp (by rw [Nat.zero_add]; exact hb)
  unfold pgT at x1 x2
  split at x1
  · rename_i u v _
    rename_i hk
    rw [hk] at x2
    simp at x1 x2
    exact absurd x2.2 x1.2
  · cases x1
theorem ToldAt.hid {K : PySem.W.Frag} {C : Addr} {H : Hp} {v : V} {out : TOut} {cs : Cs} (h : ToldAt K C H v out) (hc : HeldC cs H) : ToldAt K C (Vf.hid cs H) v out := by
  cases out with
  | shape z gs es => obtain ⟨o, e, hS⟩ := h; exact ⟨o, e, hS.hid hc⟩
  | unlike => obtain ⟨t, e, ht⟩ := h; exact ⟨t, e, tup_hid hc ht⟩
  | many => obtain ⟨t, e, ht⟩ := h; exact ⟨t, e, tup_hid hc ht⟩
theorem ToldAt.sameT {K : PySem.W.Frag} {NT : List NTab} {C : Addr} {H H' : Hp} {v : V} {out : TOut} (h : ToldAt K C H v out) (s : SameT NT H H') : ToldAt K C H' v out := by
  cases out with
  | shape z gs es => obtain ⟨o, e, hS⟩ := h; exact ⟨o, e, hS.sameT s⟩
  | unlike => obtain ⟨t, e, ht⟩ := h; exact ⟨t, e, s.ext _ _ ht (fun _ z => nomatch z)⟩
  | many => obtain ⟨t, e, ht⟩ := h; exact ⟨t, e, s.ext _ _ ht (fun _ z => nomatch z)⟩
theorem ToldAt.kp {K : PySem.W.Frag} {C p : Addr} {H H' : Hp} {v : V} {out : TOut} {kvs : List (Key × V)} (h : ToldAt K C H v out) (k : Kp p H H') (hp : H p = some (.dK kvs)) : ToldAt K C H' v out := by
  cases out with
  | shape z gs es => obtain ⟨o, e, hS⟩ := h; exact ⟨o, e, hS.kp k hp⟩
  | unlike => obtain ⟨t, e, ht⟩ := h; exact ⟨t, e, k _ _ ht (L2.ne_of ht hp (fun z => nomatch z))⟩
  | many => obtain ⟨t, e, ht⟩ := h; exact ⟨t, e, k _ _ ht (L2.ne_of ht hp (fun z => nomatch z))⟩
theorem ToldAt.same {K : PySem.W.Frag} {C : Addr} {H H' : Hp} {v : V} {out : TOut} (h : ToldAt K C H v out) (s : Same H H') : ToldAt K C H' v out := by
  cases out with
  | shape z gs es => obtain ⟨o, e, hS⟩ := h; exact ⟨o, e, hS.same s⟩
  | unlike => obtain ⟨t, e, ht⟩ := h; exact ⟨t, e, s _ _ ht⟩
  | many => obtain ⟨t, e, ht⟩ := h; exact ⟨t, e, s _ _ ht⟩
theorem has_pair {g1 g2 : List (List Int)} {z : Str} {e1 e2 : List Int} (hl : (pT g1 g2 z 40).1.length ≤ 40) (taken : Bool) {y : List Nat} (hy : ∀ c ∈ y, c ∈ TL.tl z) : decide (walkG (goals (pT g1 g2 z 40).2) (TL.tl z) 0 y ∈ goodFrom (pgT taken e1 e2) 0 (pT g1 g2 z 40).1) = (decide (walkG g1 (TL.tl z) 0 y ∈ e1) && (decide (walkG g2 (TL.tl z) 0 y ∈ e2) == taken)) := by
  have F : Full (pst g1 g2 (TL.tl z)) (TL.tl z) [Sum.inl 0, Sum.inl 0] (pT g1 g2 z 40).1 (pT g1 g2 z 40).2 := full_of hl
  rw [has_made F (pgT taken e1 e2) hy, foldl_pst]
  rfl
/-- the list that the columns' loop goes through -/
theorem cols_if {K : PySem.W.Frag} {C l : Addr} {xs : List V} {v : V} {out : TOut} {σ : L2.St} {H : Hp} {Q : VK} (cl : Cls K C) (ca : PySem.W.findIn K (.ref C) "__class__" = some (some (.builtin "object.__class__")))
    (cn : PySem.W.specialIn K (.builtin "object.__class__") "__get__" = some (some (.builtin "getset_descriptor.__get__"))) (ct : PySem.W.takesIn K (.builtin "object.__class__") = some true) (cm : PySem.W.mroIn K C (.type "object") = some true) (kc : PySem.W.kitOne K (.ref C) (.ref C) = some true) (kt : PySem.W.kitOne K (.type "tuple") (.ref C) = some false)
    (h6 : σ[6]? = some (some v)) (h8 : σ[8]? = some (some (.ref l))) (hl : H l = some (.lst xs)) (ht : ToldAt K C H v out)
    (k : ∀ l' xs' H', H' l' = some (.lst xs') → Same H H' → xs' = xs ∧ (∃ z gs es, out = .shape z gs es) ∨ xs' = [] → Q (.ref l') H') : tIf (tB (tCB (rIsi K) (tCons (tVar 6) (tCons (tC (.ref C)) tNil)))) (tVar 8) (tLst tNil) σ H Q := by
  cases out with
  | shape z gs es =>
    obtain ⟨o, rfl, hS⟩ := ht
    obtain ⟨dx, R, E, ho, hR, hE⟩ := id hS
    refine ⟨_, h6, _, _, _, _, _, rfl, .own C, .base (.ins ho cl ca cn ct cm), kc, true, rfl, ?_⟩
    refine ite2 (fun _ => ?_) (fun c => absurd rfl c)
    exact ⟨_, h8, k l xs H hl (Same.refl H) (Or.inl ⟨rfl, z, gs, es, rfl⟩)⟩
  | unlike =>
    obtain ⟨t, rfl, hS⟩ := ht
    refine ⟨_, h6, _, _, _, _, _, rfl, .own C, .base (.tup hS), kt, false, rfl, ?_⟩
    refine ite2 (fun c => absurd c (by decide)) (fun _ => ?_)
    exact ⟨by show 0 ≤ sizeLine; decide, fun q hq => k q [] _ upd_same (same_new hq) (Or.inr rfl)⟩
  | many =>
    obtain ⟨t, rfl, hS⟩ := ht
    refine ⟨_, h6, _, _, _, _, _, rfl, .own C, .base (.tup hS), kt, false, rfl, ?_⟩
    refine ite2 (fun c => absurd c (by decide)) (fun _ => ?_)
    exact ⟨by show 0 ≤ sizeLine; decide, fun q hq => k q [] _ upd_same (same_new hq) (Or.inr rfl)⟩
theorem and_v {σ : L2.St} {H : Hp} {Q : VK} (b d : Bool) (h10 : σ[10]? = some (some (.bl b))) (h11 : σ[11]? = some (some (.bl d))) (k : Q (.bl (b && d)) H) : tAndV (tVar 10) (tVar 11) σ H Q := by
  refine ⟨_, h10, b, rfl, ?_⟩
  cases b with
  | true => rw [if_pos rfl]; exact ⟨_, h11, by simpa using k⟩
  | false => rw [if_neg (by decide)]; simpa using k
theorem and_nv {σ : L2.St} {H : Hp} {Q : VK} (b d : Bool) (h10 : σ[10]? = some (some (.bl b))) (h11 : σ[11]? = some (some (.bl d))) (k : Q (.bl (b && !d)) H) : tAndV (tVar 10) (tNotV (tVar 11)) σ H Q := by
  refine ⟨_, h10, b, rfl, ?_⟩
  cases b with
  | true => rw [if_pos rfl]; exact ⟨_, h11, d, rfl, by simpa using k⟩
  | false => rw [if_neg (by decide)]; simpa using k
theorem g_name {i : Nat} {v : V} {σ : L2.St} {H : Hp} {R : L2.St → Hp → Prop} (h : R (σ.set i (some v)) H) : gName i v σ H R := h
theorem ifS_rest {t : TT} {b u : TS} {D : Ends} {σ : L2.St} {H : Hp} {R : Hp → Prop} (rest : ∀ H', R H' → u D σ H') (h : (∀ H', R H' → u D σ H') → t σ H (fun c H1 => if c = true then b { D with nx := u D } σ H1 else u D σ H1)) : tSeq (tIfS t b tNext) u D σ H := h rest
def NoneAt (K : PySem.W.Frag) (C : Addr) (H : Hp) (v : V) (z : Str) : Prop := v = .non ∨ ∃ o gs es, v = .ref o ∧ ShapeAt K C H o z gs es ∧ GoodRows z.length gs ∧ ∀ y : List Nat, (∀ c ∈ y, c ∈ TL.tl z) → ¬ walkG gs (TL.tl z) 0 y ∈ es
theorem none_if {K : PySem.W.Frag} {NT : List NTab} {C CT CU : Addr} {vB vW : V} {outB outW : TOut} {z : Str} {σ : L2.St} {H : Hp} {Q : VK} {E : XK} (cl : Cls K C) (ca : PySem.W.findIn K (.ref C) "__class__" = some (some (.builtin "object.__class__")))
    (cn : PySem.W.specialIn K (.builtin "object.__class__") "__get__" = some (some (.builtin "getset_descriptor.__get__"))) (ct : PySem.W.takesIn K (.builtin "object.__class__") = some true) (cm : PySem.W.mroIn K C (.type "object") = some true) (kc : PySem.W.kitOne K (.ref C) (.ref C) = some true) (kt : PySem.W.kitOne K (.type "tuple") (.ref C) = some false)
    (h6 : σ[6]? = some (some vB)) (h7 : σ[7]? = some (some vW)) (hB : ToldAt K C H vB outB) (hW : ToldAt K C H vW outW) (hT : TabsN NT H) (hz : z.length ≤ 26)
    (hout : outB = .many ∨ ∃ gs b1 b2, outB = .shape z gs b1 ∧ outW = .shape z gs b2 ∧ GoodRows z.length gs ∧ gs.length ≤ 40 ∧ ∀ a, a ∈ b2 → ¬ a ∈ b1)
    (k : ∀ v H', SameT NT H H' → NoneAt K C H' v z → Q v H') : tIf (tB (tCB (rIsi K) (tCons (tVar 6) (tCons (tC (.ref C)) tNil)))) (tCall (spBoth K NT C CT CU) [] E (tCons (tVar 7) (tCons (tVar 6) tNil))) (tC .non) σ H Q := by
  rcases hout with rfl | ⟨gs, b1, b2, rfl, rfl, hg, hgl, hno⟩
  · obtain ⟨t, rfl, hS⟩ := hB
    refine ⟨_, h6, _, _, _, _, _, rfl, .own C, .base (.tup hS), kt, false, rfl, ?_⟩
    refine ite2 (fun c => absurd c (by decide)) (fun _ => ?_)
    exact k _ H (SameT.of (Same.refl H) hT) (Or.inl rfl)
  · obtain ⟨oB, rfl, hSB⟩ := hB
    obtain ⟨oW, rfl, hSW⟩ := hW
    obtain ⟨dx, R, E', ho, hR, hE⟩ := id hSB
    refine ⟨_, h6, _, _, _, _, _, rfl, .own C, .base (.ins ho cl ca cn ct cm), kc, true, rfl, ?_⟩
    refine ite2 (fun _ => ?_) (fun c => absurd rfl c)
    have hd := (diag_le hg 40).1
    refine ⟨_, h7, _, h6, oW, oB, z, z, gs, gs, b2, b1, rfl, hSW, hSB, hz, hT, fun q => absurd rfl q, fun _ => ⟨hg, hg, fun o H' st hSh hgr hle => k _ H' st (Or.inr ⟨o, _, _, rfl, hSh, hgr, fun y hy hm => ?_⟩), fun hgt => absurd (Nat.lt_of_lt_of_le hgt (Nat.le_trans hd hgl)) (Nat.lt_irrefl _)⟩⟩
    have F : Full (pst gs gs (TL.tl z)) (TL.tl z) [Sum.inl 0, Sum.inl 0] (pT gs gs z 40).1 (pT gs gs z 40).2 := full_of hle
    have h1 := has_made F (pgB b2 b1) hy
    rw [decide_eq_true hm, foldl_pst] at h1
    have h1 : true = (decide (walkG gs (TL.tl z) 0 y ∈ b2) && decide (walkG gs (TL.tl z) 0 y ∈ b1)) := h1
    have h1 := h1.symm
    rw [Bool.and_eq_true, decide_eq_true_eq, decide_eq_true_eq] at h1
    exact hno _ h1.1 h1.2
theorem SameT.putL {T : List NTab} {H H1 : Hp} {r : Addr} {xs : List V} {o : HO} (s : SameT T H H1) (h : H r = none) (hr : H1 r = some (.lst xs)) : SameT T H (L2.upd H1 r o) := by
  refine ⟨fun b u e n => ?_, fun b e => s.back b (upd_none e), fun p hp => ?_⟩
  · rw [upd_ne (ne_of_none e h)]
    exact s.ext b u e n
  · obtain ⟨ps, h1, h2, h3⟩ := s.tab p hp
    refine ⟨ps, by rw [upd_ne (L2.ne_of h1 hr (fun z => nomatch z))]; exact h1, h2, fun pos cv e => ?_⟩
    obtain ⟨c, e1, e2⟩ := h3 pos cv e
    exact ⟨c, e1, by rw [upd_ne (L2.ne_of e2 hr (fun z => nomatch z))]; exact e2⟩
theorem dp_unlike {K : PySem.W.Frag} {H : Hp} {t : Addr} (h : H t = some (.tup [.str "unlike", .bl true])) : Dp K H (.ref t) (.tuple [.str "unlike", .bool true]) := .tup (SqT.of h) (.cons (.str _) (.cons (.bl _) .nil))
def words4 : List Str := ["a", "ab", "abc", "xyz"]
theorem words4_more (z : Str) : 3 ≤ (words4.filter fun x => !decide (x = z)).length := by
  by_cases h1 : z = "a"
  · subst h1; decide +kernel
  by_cases h2 : z = "ab"
  · subst h2; decide +kernel
  by_cases h3 : z = "abc"
  · subst h3; decide +kernel
  by_cases h4 : z = "xyz"
  · subst h4; decide +kernel
  have : words4.filter (fun x => !decide (x = z)) = words4 := List.filter_eq_self.mpr fun x hx => by
    have : x ≠ z := fun e => by
      subst e
      rcases List.mem_cons.mp hx with q | hx
      · exact h1 q
      rcases List.mem_cons.mp hx with q | hx
      · exact h2 q
      rcases List.mem_cons.mp hx with q | hx
      · exact h3 q
      · exact h4 (List.mem_singleton.mp hx)
    rw [decide_eq_false this]
    rfl
  rw [this]
  decide
theorem words4_len : ∀ x ∈ words4, x.length ≤ 3 := by decide +kernel
theorem goodRows_zero (n : Nat) : GoodRows n [List.replicate n (0 : Int)] := by
  refine ⟨fun j hj hb => ?_, by show 0 < 1; decide⟩
  obtain rfl : j = 0 := by
    have : j < 1 := hj
    omega
  rcases hb with h | ⟨g, hg, h⟩
  · exact h (List.length_replicate ..)
  · have hg : g ∈ List.replicate n (0 : Int) := hg
    rw [List.eq_of_mem_replicate hg] at h
    exact h ⟨Int.le_refl _, by show (0 : Int) < 1; decide⟩
def spLaw (K : PySem.W.Frag) (NT : List NTab) : Sp := fun vs H Q _ => ∃ (a : Addr) (ns : List Int), vs = [.ref a] ∧ SqL K H a (ns.map V.int) ∧ ns.length ≤ 63 ∧ TabsN NT H ∧ ∀ H', Q (.bl true) H'
section
variable {P : Program} {w : World} {K : PySem.W.Frag} {mg : Str → Option Value} {base : Heap}
theorem ok_law {NT : List NTab} {f fD fP fPen fLe fSS fMS fTe fPR fCn fHD fBo fWi C CU CT fCG fCD B CB fB' fSP fSt fEq fLn fHas fI cL pL : Addr} {fd fdD fdP fdPen fdLe fdSS fdMS fdTe fdPR fdCn fdHD fdBo fdWi fdHas fdI : FuncData} (F : FunC K "law" "law" s_law f fd cL) (T1 : TxtN2 base mg NT cL pL (fun _ _ => Q_law ++ "<lambda>")) (T : TxtAll K mg fD fP fPen fLe fSS fMS fTe fPR fCn fHD fBo fWi C fCG fCD B CB fB' fSP fSt fEq fLn)
    (FD : Fun K "_law_draw" "_law_draw" s__law_draw fD fdD) (b_law_draw : Binds K fdD P__law_draw []) (FP : Fun K "_law_pick" "_law_pick" s__law_pick fP fdP) (b_law_pick : Binds K fdP P__law_pick [])
    (FPen : Fun K "_law_pen" "_law_pen" s__law_pen fPen fdPen) (b_law_pen : Binds K fdPen P__law_pen []) (FLe : Fun K "_law_letters" "_law_letters" s__law_letters fLe fdLe) (b_law_letters : Binds K fdLe P__law_letters [])
    (FCn : Fun K "_law_column" "_law_column" s__law_column fCn fdCn) (b_law_column : Binds K fdCn P__law_column [])
    (G_law_some_shape : FnOk P w K mg base CX0 4 fSS fdSS P__law_some_shape spSome) (b_law_some_shape : Binds K fdSS P__law_some_shape [])
    (G_law_made_shape : FnOk P w K mg base CX0 6 fMS fdMS P__law_made_shape (spMkD K C)) (b_law_made_shape : Binds K fdMS P__law_made_shape [])
    (G_law_told : FnOk P w K mg base CX0 14 fTe fdTe P__law_told (spTell P w K mg base NT C CU CT)) (b_law_told : Binds K fdTe P__law_told [])
    (G_law_pair_right : FnOk P w K mg base CX0 3 fPR fdPR P__law_pair_right (spPR K C)) (b_law_pair_right : Binds K fdPR P__law_pair_right [])
    (G_law_has : FnOk P w K mg base CX0 1 fHD fdHD P__law_has spHasD) (b_law_has : Binds K fdHD P__law_has [])
    (Gboth : FnOk P w K mg base (L2.CX P w) 12 fBo fdBo P_both (spBoth K NT C CT CU)) (bboth : Binds K fdBo P_both [])
    (Gwithout : FnOk P w K mg base (L2.CX P w) 12 fWi fdWi P_without (spWithout K NT C CT CU)) (bwithout : Binds K fdWi P_without [])
    (mtHas : Meth K C "has" fHas) (GHas : FnOk P w K mg base CX0 2 fHas fdHas P_Shape_has (spHas K C)) (bHas : Binds K fdHas P_Shape_has [])
    (MShape : Mk K C fI) (GShape : FnOk P w K mg base (L2.CX P w) 4 fI fdI P_Shape___init__ (spInitS K C CB)) (bShape : Binds K fdI P_Shape___init__ []) : FnOk P w K mg base (L2.CX P w) 15 f fd P_law (spLaw K NT) := by
  have G_law_pen : FnOk P w K mg base CX0 1 fPen fdPen P__law_pen (spPen K) := ok_pen FPen T.toTxtA
  have G_law_draw : FnOk P w K mg base CX0 1 fD fdD P__law_draw spDraw := ok_draw FD T.toTxtA
  have G_law_letters : FnOk P w K mg base CX0 2 fLe fdLe P__law_letters spLetters := ok_letters FLe T.toTxtD FD b_law_draw
  have G_law_column : FnOk P w K mg base CX0 3 fCn fdCn P__law_column spCol := ok_col FCn T.toTxtP FD b_law_draw FP b_law_pick
  refine F.okX sc_law (fun vs H Q E h => ?_) (fun A outer s H vs Q E hr h => ?_)
  · obtain ⟨a, ns, rfl, _⟩ := h
    rfl
  · obtain ⟨a, ns, rfl, hS, hlen, hT, k⟩ := h
    have hu := hu_of hr
    have passL : Passes (L2.CX P w) (cxOf (L2.CX P w) P w K mg base N_law "law" (defScope s_law) f (.ref cL) A outer s H E) E := passes_call (takes_of rfl rfl rfl rfl) (fun _ _ _ _ h => h)
    refine ⟨_, (pss_cons (ps_set (i := 1) sc_law.nd rfl (Or.inr rfl) (pe_call G_law_pen (hr.mono (by decide)) (by rfl) T.m_law_pen T.k_law_pen b_law_pen .nil pass0 (pa_cons (pv 0) pa_nil)))
      (pss_cons (ps_for (passes_of rfl) rfl (pi_range1 (by rfl) T.range (pa_cons (pe_op op_add pe_int (pe_callB (call_min2 rfl) (by rfl) T.min boot_min (pa_cons pe_int (pa_cons (pe_callB call_len (by rfl) T.len PySem.boot_len (pa_cons (pv 0) pa_nil)) pa_nil)))) pa_nil)) (pg_name (i := 2) sc_law.nd rfl (Or.inl rfl)) (pss_cons (ps_set (i := 3) sc_law.nd rfl (Or.inr rfl) (pe_call G_law_letters (hr.mono (by decide)) (by rfl) T.m_law_letters T.k_law_letters b_law_letters .nil pass0 (pa_cons (pv 1) (pa_cons (pe_op op_add pe_int (pe_call G_law_draw (hr.mono (by decide)) (by rfl) T.m_law_draw T.k_law_draw b_law_draw .nil pass0 (pa_cons (pv 1) (pa_cons pe_int pa_nil)))) pa_nil))))
      (pss_cons (ps_par (i := 4) (j := 5) (by rfl) sc_law.nd rfl rfl (by decide) rfl rfl (pa_cons (pe_call G_law_some_shape (hr.mono (by decide)) (by rfl) T.m_law_some_shape T.k_law_some_shape b_law_some_shape .nil pass0 (pa_cons (pv 1) (pa_cons (pv 3) pa_nil))) (pa_cons (pe_call G_law_some_shape (hr.mono (by decide)) (by rfl) T.m_law_some_shape T.k_law_some_shape b_law_some_shape .nil pass0 (pa_cons (pv 1) (pa_cons (pv 3) pa_nil))) pa_nil)) (by rfl))
      (pss_cons (ps_asg (pe_tup (pa_cons (pe_call G_law_made_shape (hr.mono (by decide)) (by rfl) T.m_law_made_shape T.k_law_made_shape b_law_made_shape .nil pass0 (pa_cons (pv 4) pa_nil)) (pa_cons (pe_call G_law_made_shape (hr.mono (by decide)) (by rfl) T.m_law_made_shape T.k_law_made_shape b_law_made_shape .nil pass0 (pa_cons (pv 5) pa_nil)) pa_nil))) (pg_tup (by rfl) (pgs_cons (pg_name (i := 16) sc_law.nd rfl (Or.inr rfl)) (pgs_cons (pg_name (i := 18) sc_law.nd rfl (Or.inr rfl)) pgs_nil))))
      (pss_cons (ps_set (i := 6) sc_law.nd rfl (Or.inl rfl) (pe_callC cxok0 G_law_told (hr.mono (by decide)) (fun _ => rfl) (by rfl) T.m_law_told T.k_law_told b_law_told .nil pass0 (pa_cons (pe_lamV T1.tb (by rfl) T1.tm (by rfl) T1.tu (by rfl) (by exact fun y hy e => Or.inl (cells_free nc_law_l0 y hy e))) pa_nil)))
      (pss_cons (ps_set (i := 7) sc_law.nd rfl (Or.inl rfl) (pe_callC cxok0 G_law_told (hr.mono (by decide)) (fun _ => rfl) (by rfl) T.m_law_told T.k_law_told b_law_told .nil pass0 (pa_cons (pe_lamV T1.tb (by rfl) T1.tm (by rfl) T1.tu (by rfl) (by exact fun y hy e => Or.inl (cells_free nc_law_l1 y hy e))) pa_nil)))
      (pss_cons (ps_if (PW.pt (pw_or (pt_not (pt_val (pe_call G_law_pair_right (hr.mono (by decide)) (by rfl) T.m_law_pair_right T.k_law_pair_right b_law_pair_right .nil pass0 (pa_cons (pv 6) (pa_cons (pv 4) (pa_cons (pv 5) (pa_cons pe_bl pa_nil))))))) (pw_or1 (pt_not (pt_val (pe_call G_law_pair_right (hr.mono (by decide)) (by rfl) T.m_law_pair_right T.k_law_pair_right b_law_pair_right .nil pass0 (pa_cons (pv 7) (pa_cons (pv 4) (pa_cons (pv 5) (pa_cons pe_bl pa_nil)))))))))) (pss_one (ps_ret pe_bl)) pss_nil)
      (pss_cons (ps_set (i := 8) sc_law.nd rfl (Or.inl rfl) (pe_op op_cat (pe_lc (own := [("_law_k", 19)]) (g := gName 19) (by rfl) sc_law.nd (pi_range1 (by rfl) T.range (pa_cons pe_int pa_nil)) (blkOk_by (own := [("_law_k", 19)]) (N := N_law) (sc := defScope s_law) (by decide +kernel)) (fun _ _ _ _ _ => pg_name (i := 19) sc_law.nd rfl (Or.inl rfl)) (fun _ _ _ _ _ => pts_nil) (fun _ _ _ _ _ => (pe_call G_law_column (hr.mono (by decide)) (by rfl) T.m_law_column T.k_law_column b_law_column .nil pass0 (pa_cons (pv 1) (pa_cons (pv 3) (pa_cons pe_int pa_nil)))))) (pe_lst (pa_cons pe_str (pa_cons (pv 3) pa_nil)))))
      (pss_cons (ps_for (passes_of rfl) rfl (pi_list (pe_ifExp (pt_val (pe_callB call_isi (by rfl) T.isinstance boot_isinstance (pa_cons (pv 6) (pa_cons (pe_glob (by rfl) T.mgShape (v := .ref C) rfl) pa_nil)))) (pv 8) (pe_lst pa_nil))) (pg_name (i := 9) sc_law.nd rfl (Or.inl rfl)) (pss_cons (ps_par (i := 10) (j := 11) (by rfl) sc_law.nd rfl rfl (by decide) rfl rfl (pa_cons (pe_call G_law_has (hr.mono (by decide)) (by rfl) T.m_law_has T.k_law_has b_law_has .nil pass0 (pa_cons (pv 4) (pa_cons (pv 9) pa_nil))) (pa_cons (pe_call G_law_has (hr.mono (by decide)) (by rfl) T.m_law_has T.k_law_has b_law_has .nil pass0 (pa_cons (pv 5) (pa_cons (pv 9) pa_nil))) pa_nil)) (by rfl))
      (pss_one (ps_if (PW.pt (pw_or (pt_cmpR op_ne (pe_meth (pv 6) T.cl mtHas GHas (hr.mono (by decide)) bHas .nil pass0 (pa_cons (pv 9) pa_nil)) (pe_and (pv 10) (pe_one (pv 11))) (nomark _)) (pw_or1 (pt_cmpR op_ne (pe_meth (pv 7) T.cl mtHas GHas (hr.mono (by decide)) bHas .nil pass0 (pa_cons (pv 9) pa_nil)) (pe_and (pv 10) (pe_one (pe_not (pv 11)))) (nomark _))))) (pss_one (ps_ret pe_bl)) pss_nil))))
      (pss_cons (ps_set (i := 12) sc_law.nd rfl (Or.inr rfl) (pe_ifExp (pt_val (pe_callB call_isi (by rfl) T.isinstance boot_isinstance (pa_cons (pv 6) (pa_cons (pe_glob (by rfl) T.mgShape (v := .ref C) rfl) pa_nil)))) (pe_call Gboth (hr.mono (by decide)) (by rfl) T.mboth T.kboth bboth .nil passL (pa_cons (pv 7) (pa_cons (pv 6) pa_nil))) pe_non))
      (pss_cons (ps_if (PW.pt (pw_and (pt_cmpR op_notN (pv 12) pe_non (nomark _)) (pw_and1 (pt_cmpR (op_neD hr.units) (pe_lc (own := [("_law_column_here", 9)]) (g := gName 9) (by rfl) sc_law.nd (pi_list (pv 8)) (blkOk_by (own := [("_law_column_here", 9)]) (N := N_law) (sc := defScope s_law) (by decide +kernel)) (fun _ _ _ _ _ => pg_name (i := 9) sc_law.nd rfl (Or.inl rfl)) (fun _ _ _ _ _ => (pts_one (pt_val (pe_meth (pv 12) T.cl mtHas GHas (hr.mono (by decide)) bHas .nil pass0 (pa_cons (pv 9) pa_nil))))) (fun _ _ _ _ _ => (pv 9))) (pe_lst pa_nil) (nomark _))))) (pss_one (ps_ret pe_bl)) pss_nil)
      (pss_cons (ps_set (i := 13) sc_law.nd rfl (Or.inl rfl) (pe_ix ix_list (pe_lc (own := [("_law_word", 20)]) (g := gName 20) (by rfl) sc_law.nd (pi_list (pe_lst (pa_cons pe_str (pa_cons pe_str (pa_cons pe_str (pa_cons pe_str pa_nil)))))) (blkOk_by (own := [("_law_word", 20)]) (N := N_law) (sc := defScope s_law) (by decide +kernel)) (fun _ _ _ _ _ => pg_name (i := 20) sc_law.nd rfl (Or.inl rfl)) (fun _ _ _ _ _ => (pts_one (pt_cmpR op_ne (pv 20) (pv 3) (nomark _)))) (fun _ _ _ _ _ => (pv 20))) (pe_call G_law_draw (hr.mono (by decide)) (by rfl) T.m_law_draw T.k_law_draw b_law_draw .nil pass0 (pa_cons (pv 1) (pa_cons pe_int pa_nil))) (fun _ _ => rfl)))
      (pss_cons (ps_set (i := 17) sc_law.nd rfl (Or.inr rfl) (pe_make MShape GShape (hr.mono (by decide)) (by rfl) T.mgShape bShape .nil passL (pa_cons (pv 13) (pa_cons (pe_lst (pa_cons (pe_op op_rep (pe_lst (pa_cons pe_int pa_nil)) (pe_callB call_len (by rfl) T.len PySem.boot_len (pa_cons (pv 13) pa_nil))) pa_nil)) (pa_cons (pe_lst (pa_cons pe_int pa_nil)) pa_nil)))))
      (pss_cons (ps_set (i := 14) sc_law.nd rfl (Or.inl rfl) (pe_lst (pa_cons (pe_lamV T1.tb (by rfl) T1.tm (by rfl) T1.tu (by rfl) (by exact fun y hy e => Or.inl (cells_free nc_law_l2 y hy e))) pa_nil)))
      (pss_cons (ps_expr (pe_bm PySem.F.plainAttrs_list PySem.F.slot_list_append PySem.F.type_list_append mt_append (pv 14) (pa_cons (pe_lamV T1.tb (by rfl) T1.tm (by rfl) T1.tu (by rfl) (by exact fun y hy e => Or.inl (cells_free nc_law_l3 y hy e))) pa_nil)))
      (pss_cons (ps_expr (pe_bm PySem.F.plainAttrs_list PySem.F.slot_list_append PySem.F.type_list_append mt_append (pv 14) (pa_cons (pe_lamV T1.tb (by rfl) T1.tm (by rfl) T1.tu (by rfl) (by exact fun y hy e => Or.inl (cells_free nc_law_l4 y hy e))) pa_nil)))
      (pss_one (ps_for (passes_of rfl) rfl (pi_list (pv 14)) (pg_name (i := 15) sc_law.nd rfl (Or.inl rfl)) (pss_one (ps_if (pt_cmpR (op_neD hr.units) (pe_callC cxok0 G_law_told (hr.mono (by decide)) (fun _ => rfl) (by rfl) T.m_law_told T.k_law_told b_law_told .nil pass0 (pa_cons (pv 15) pa_nil)) (pe_tup (pa_cons pe_str (pa_cons pe_bl pa_nil))) (nomark _)) (pss_one (ps_ret pe_bl)) pss_nil))))))))))))))))))))
      (pss_one (ps_ret pe_bl)))), ?_⟩
    refine ⟨_, rfl, a, ns, rfl, hS, hlen, fun p c H1 hpn hcn hp1 s1 => ?_⟩
    have hT1 : TabsN NT H1 := hT.ext fun b o e => s1 b o e
    have hJ : ∀ l : Nat, 0 ≤ 3 + (if (l : Int) < 5 then (l : Int) else 5) ∧ 3 + (if (l : Int) < 5 then (l : Int) else 5) ≤ 8 := fun l => by split <;> omega
    have hJ1 := hJ (ns.map V.int).length
    refine ⟨_, rfl, _, _, rfl, Or.inl ⟨_, (Kl.same s1).seq hS, rfl⟩, _, _, rfl, _, _, rfl, rfl, _, rfl, (by show -(2 ^ 62) ≤ 3 + (if ((ns.map V.int).length : Int) < 5 then ((ns.map V.int).length : Int) else 5); omega), (by show 3 + (if ((ns.map V.int).length : Int) < 5 then ((ns.map V.int).length : Int) else 5) < 2 ^ 62; omega),
      for_range (n := (3 + (if ((ns.map V.int).length : Int) < 5 then ((ns.map V.int).length : Int) else 5)).toNat) (fun i σ H2 => ∃ v2 v3 v4 v5 v6 v7 v8 v9 v10 v11 v12 v13 v14 v15 v16 v17 v18 v19 v20 : Option V, σ = [some (.ref a), some (.ref p), v2, v3, v4, v5, v6, v7, v8, v9, v10, v11, v12, v13, v14, v15, v16, v17, v18, v19, v20] ∧ Pen H2 p c (i * 4000) ∧ TabsN NT H2)
      ⟨none, none, none, none, none, none, none, none, none, none, none, none, none, none, none, none, none, none, none, rfl, hp1, hT1⟩ ?_ ?_⟩
    · rintro i σ H2 hi ⟨v2, v3, v4, v5, v6, v7, v8, v9, v10, v11, v12, v13, v14, v15, v16, v17, v18, v19, v20, rfl, hp2, hT2⟩
      have hi8 : i < 8 := by omega
      refine ⟨_, rfl, _, rfl, p, c, 3, _, rfl, hp2, by omega, by decide, by decide, fun d H3 d0 d1 hp3 k3 => ⟨_, _, rfl, rfl, ?_⟩⟩
      obtain ⟨m, hm⟩ : ∃ m : Nat, 1 + d = m := ⟨(1 + d).toNat, by omega⟩
      refine ⟨p, c, m, _, (by show [V.ref p, V.int (1 + d)] = [V.ref p, V.int m]; rw [hm]), hp3, by omega, by omega, fun z H4 hz hp4 k4 => ?_⟩
      obtain ⟨hzl, hzs, hzc⟩ := hz
      have hz3 : z.length ≤ 3 := by omega
      have hz1 : 1 ≤ z.length := by omega
      have h200 : ∀ d ∈ TL.tl z, d < 200 := fun x hx => by have := hzc x hx; omega
      have hL3 : (TL.tl z).length ≤ 3 := by rw [← TL.len_tl]; exact hz3
      have hnd : (TL.tl z).Nodup := hzs.imp fun h e => by omega
      obtain ⟨c0, r, hz0⟩ : ∃ c0 r, TL.tl z = c0 :: r := by
        cases e : TL.tl z with
        | nil => rw [TL.len_tl, e] at hz1; cases hz1
        | cons a b => exact ⟨a, b, rfl⟩
      have h0 : ∀ d ∈ TL.tl z, c0 ≤ d := fun x hx => by
        rw [hz0] at hx hzs
        rcases List.mem_cons.mp hx with q | q
        · omega
        · exact Nat.le_of_lt ((List.pairwise_cons.mp hzs).1 x q)
      obtain ⟨kvp2, hdp2⟩ := hp2.dk
      have hT4 := tabsN_kp hT2 (k3.trans k4) hdp2
      obtain ⟨kvp4, hdp4⟩ := hp4.dk
      clear hT2 k3 k4 hdp2 hp2 hp3
      -- two shapes as data
      refine ⟨_, rfl, _, rfl, p, c, z, c0, r, _, rfl, hp4, by omega, hz0, hz3, h0, h200, fun t1 H5 g1 e1 hA hg1 hl1 he1 hel1 hp5 k5 => ?_⟩
      obtain ⟨kvp5, hdp5⟩ := hp5.dk
      refine ⟨_, rfl, _, rfl, p, c, z, c0, r, _, rfl, hp5, by omega, hz0, hz3, h0, h200, fun t2 H6 g2 e2 hB hg2 hl2 he2 hel2 hp6 k6 => ⟨_, _, rfl, ?_⟩⟩
      have hA := hA.kp k6 hdp5
      have hT6 := tabsN_kp hT4 (k5.trans k6) hdp4
      clear hT4 hp4 hp5 k5 k6 hdp4 hdp5
      -- made
      refine ⟨_, rfl, t1, z, g1, e1, rfl, hA, hg1, by omega, by omega, by omega, he1, fun o1 H7 a1 s7 hu1 hm1 hS1 => ⟨_, rfl, t2, z, g2, e2, rfl, hB.same s7, hg2, by omega, by omega, by omega, he2, fun o2 H8 a2 s8 hu2 hm2 hS2 => ⟨by show 2 ≤ sizeLine; decide, fun q hq => ?_⟩⟩⟩
      refine ⟨q, _, rfl, SqT.of upd_same, rfl, _, _, rfl, _, _, rfl, rfl, ?_⟩
      have s69 : Same H6 (L2.upd H8 q (.tup [.ref o1, .ref o2])) := (s7.trans s8).trans (same_new hq)
      have hA := hA.same s69
      have hB := hB.same s69
      have hp9 := hp6.same s69
      have hT9 : TabsN NT (L2.upd H8 q (.tup [.ref o1, .ref o2])) := hT6.ext fun b o e => s69 b o e
      have hS1 := hS1.same (s8.trans (same_new (o := .tup [.ref o1, .ref o2]) hq))
      have hS2 := hS2.same (same_new (o := .tup [.ref o1, .ref o2]) hq)
      change tSeq _ _ _ _ (L2.upd H8 q (.tup [.ref o1, .ref o2]))
      generalize L2.upd H8 q (.tup [.ref o1, .ref o2]) = H9 at hA hB hp9 hT9 hS1 hS2 ⊢
      clear s69 hT6 hp6 s7 s8 hq
      obtain ⟨outB, hoB, hmB, hsB⟩ := pair_out hg1 hg2 true (pgB a1 a2) (pgB_eq (g1 := g1) (g2 := g2) hm1 hm2)
      obtain ⟨outW, hoW, hmW, hsW⟩ := pair_out hg1 hg2 false (pgW a1 a2) (pgW_eq (g1 := g1) (g2 := g2) hm1 hm2)
      have hp := hp9
      have hT := hT9
      clear hp9 hT9
      -- both, without
      refine ⟨hT, fun fm0 c10 Ha eN back Ta nf hfm hc1 => fun cs hcap hcn => ?_⟩
      have sta : SameT NT H9 Ha := ⟨eN, back, Ta⟩
      have hcap0 := cap_of (scope := lamScope l_law_l0) (fr := R_law_l0) (js := [16, 18]) hcap (cells_free nc_law_l0) nr_law_l0 rfl
      have FA := fv_of_lok cxok (lok_l0 (P := P) (w := w) (K := K) (mg := mg) (base := base) (NT := NT) (C := C) (CU := CU) (CT := CT) (o1 := o1) (o2 := o2) (fg := fm0) (c' := c10) (cl := _) (q := Q_law ++ "<lambda>") T.mboth T.kboth Gboth bboth (by omega) hoB) hcap0
      have FA2 := FA.imp (S' := fun Hh => HeldL fm0 (LF l_law_l0 (Q_law ++ "<lambda>") (cloFrom (cxOf (L2.CX P w) P w K mg base N_law "law" (defScope s_law) f (.ref cL) A outer s H E).env.cells (lamScope l_law_l0).names []) c10) (lamBody l_law_l0) cs Hh ∧ ShapeAt K C Hh o1 z g1 a1 ∧ ShapeAt K C Hh o2 z g2 a2) (sp' := spAskT K NT C CU CT outB)
        (fun H h => h.1) (fun vs H Q E h q => ⟨rfl, h.2.1.hid h.1.cells, h.2.2.hid h.1.cells, askT_hid hcap.data h.1.cells q⟩)
      refine ⟨fm0, _, outB, rfl, FA2, ⟨⟨shw_keep hcn hfm, shw_keep hcn hc1, held_shw⟩, (hS1.sameT sta).shw hcn, (hS2.sameT sta).shw hcn⟩, Ta.ext fun b o e => shw_keep hcn e, fun vB Hh st5 ht => ?_⟩
      obtain ⟨hc5, st5⟩ := sameT_hid hcap.data hcn st5
      refine ⟨hc5, ?_⟩
      have htB := ht.hid hc5
      generalize hid cs Hh = H10 at st5 htB ⊢
      have st5 := sta.trans st5
      have hA := hA.sameT st5
      have hB := hB.sameT st5
      have hS1 := hS1.sameT st5
      have hS2 := hS2.sameT st5
      have hp := hp.sameT st5
      have hT := st5.tab
      clear FA2 FA hcap0 ht hc5 hcap hcn sta hfm hc1 Ta nf back eN st5
      refine ⟨hT, fun fm1 c11 Ha eN back Ta nf hfm hc1 => fun cs hcap hcn => ?_⟩
      have sta : SameT NT H10 Ha := ⟨eN, back, Ta⟩
      have hcap0 := cap_of (scope := lamScope l_law_l1) (fr := R_law_l1) (js := [16, 18]) hcap (cells_free nc_law_l1) nr_law_l1 rfl
      have FA := fv_of_lok cxok (lok_l1 (P := P) (w := w) (K := K) (mg := mg) (base := base) (NT := NT) (C := C) (CU := CU) (CT := CT) (o1 := o1) (o2 := o2) (fg := fm1) (c' := c11) (cl := _) (q := Q_law ++ "<lambda>") T.mwithout T.kwithout Gwithout bwithout (by omega) hoW) hcap0
      have FA2 := FA.imp (S' := fun Hh => HeldL fm1 (LF l_law_l1 (Q_law ++ "<lambda>") (cloFrom (cxOf (L2.CX P w) P w K mg base N_law "law" (defScope s_law) f (.ref cL) A outer s H E).env.cells (lamScope l_law_l1).names []) c11) (lamBody l_law_l1) cs Hh ∧ ShapeAt K C Hh o1 z g1 a1 ∧ ShapeAt K C Hh o2 z g2 a2) (sp' := spAskT K NT C CU CT outW)
        (fun H h => h.1) (fun vs H Q E h q => ⟨rfl, h.2.1.hid h.1.cells, h.2.2.hid h.1.cells, askT_hid hcap.data h.1.cells q⟩)
      refine ⟨fm1, _, outW, rfl, FA2, ⟨⟨shw_keep hcn hfm, shw_keep hcn hc1, held_shw⟩, (hS1.sameT sta).shw hcn, (hS2.sameT sta).shw hcn⟩, Ta.ext fun b o e => shw_keep hcn e, fun vW Hh st5 ht => ?_⟩
      obtain ⟨hc5, st5⟩ := sameT_hid hcap.data hcn st5
      refine ⟨hc5, ?_⟩
      have htW := ht.hid hc5
      generalize hid cs Hh = H11 at st5 htW ⊢
      have st5 := sta.trans st5
      have hA := hA.sameT st5
      have hB := hB.sameT st5
      have hS1 := hS1.sameT st5
      have hS2 := hS2.sameT st5
      have hp := hp.sameT st5
      have hT := st5.tab
      have htB := htB.sameT st5
      clear FA2 FA hcap0 ht hc5 hcap hcn sta hfm hc1 Ta nf back eN st5
      -- are they right
      refine ⟨_, rfl, _, rfl, _, rfl, vB, t1, t2, z, g1, g2, e1, e2, true, outB, rfl, hA, hB, hg1, hg2, hl1, hl2, hz3, hnd, htB, hmB, hsB, fun H12 s12 => ?_⟩
      refine ⟨true, rfl, ?_⟩
      refine ite2 (fun c => absurd c (by decide)) (fun _ => ?_)
      refine ⟨_, rfl, _, rfl, _, rfl, vW, t1, t2, z, g1, g2, e1, e2, false, outW, rfl, hA.same s12, hB.same s12, hg1, hg2, hl1, hl2, hz3, hnd, htW.same s12, hmW, hsW, fun H13 s13 => ?_⟩
      refine ⟨true, rfl, ?_⟩
      refine ite2 (fun c => absurd c (by decide)) (fun _ => ?_)
      have s113 := s12.trans s13
      have hA := hA.same s113
      have hB := hB.same s113
      have hS1 := hS1.same s113
      have hS2 := hS2.same s113
      have htB := htB.same s113
      have htW := htW.same s113
      have hp := hp.same s113
      have hT : TabsN NT H13 := hT.ext fun b o e => s113 b o e
      obtain ⟨kvp13, hdp13⟩ := hp.dk
      clear s12 s13 s113
      -- the columns
      refine ⟨6, rfl, by decide, by decide, fun D7 hD7 => lc_range (lo := 0) (n := 6) (fun j H17 => ∃ ys : List (List Nat), H17 D7 = some (.lst (ys.map fun l => V.str (mkS l))) ∧ ys.length = j ∧ (∀ l ∈ ys, ∀ x ∈ l, x ∈ TL.tl z) ∧ Pen H17 p c (i * 4000 + 1000 + j * 300) ∧ Kp p H13 H17)
        ⟨[], upd_same, rfl, (fun l hl => nomatch hl), (hp.same (same_new hD7)).mono (by omega), Kp.of (same_new hD7)⟩ ?_ ?_⟩
      · rintro j H17 hj ⟨ys, hD17, hyl, hys, hp17, k17⟩
        have nD7 := hp.new hD7
        refine ⟨rfl, ?_⟩
        refine lcYes ?_
        refine ⟨_, rfl, _, rfl, p, c, z, 9, _, rfl, hp17, by omega, by decide, by omega, by omega, fun y H18 hy1 hy2 hp18 k18 => ?_⟩
        have hD18 := k18 _ _ hD17 nD7.1
        refine ⟨_, hD18, ?_, ys ++ [TL.tl y], ?_, ?_, fun l hl => ?_, ?_, (k17.trans k18).put hD7⟩
        · rw [List.length_map]; exact small1000 (by omega)
        · rw [upd_same, List.map_append, List.map_singleton, mkS_tl]
        · rw [List.length_append, hyl]; rfl
        · rcases List.mem_append.mp hl with q | q
          · exact hys l q
          · rw [List.mem_singleton.mp q]; exact hy2
        · exact (hp18.put nD7.1 nD7.2).mono (by omega)
      rintro H17 ⟨ys, hD17, hyl, hys, hp17, k17⟩
      refine ⟨_, rfl, by show 2 ≤ sizeLine; decide, fun l2 hl2 => ⟨D7, l2, _, _, rfl, rfl, same_new hl2 _ _ hD17, upd_same, ?_, fun r1 hr1 => ?_⟩⟩
      · rw [List.length_map]; exact Nat.le_of_lt (small1000 (by show _ + 2 ≤ _; omega))
      have k1320 : Kp p H13 (L2.upd (L2.upd H17 l2 (.lst [.str (Str.ofString ""), .str z])) r1 (.lst ((ys.map fun l => V.str (mkS l)) ++ [.str (Str.ofString ""), .str z]))) := (k17.trans (Kp.of (same_new hl2))).trans (Kp.of (same_new hr1))
      have hr20 : (L2.upd (L2.upd H17 l2 (.lst [.str (Str.ofString ""), .str z])) r1 (.lst ((ys.map fun l => V.str (mkS l)) ++ [.str (Str.ofString ""), .str z]))) r1 = some (.lst ((ys ++ [[], TL.tl z]).map fun l => V.str (mkS l))) := by
        rw [upd_same, List.map_append]
        show _ = some (HO.lst (_ ++ [V.str (mkS []), V.str (mkS (TL.tl z))]))
        rw [mkS_tl]
        rfl
      have hp := ((hp17.same (same_new (o := .lst [.str (Str.ofString ""), .str z]) hl2)).same (same_new (o := .lst ((ys.map fun l => V.str (mkS l)) ++ [.str (Str.ofString ""), .str z])) hr1))
      generalize (L2.upd (L2.upd H17 l2 (.lst [.str (Str.ofString ""), .str z])) r1 (.lst ((ys.map fun l => V.str (mkS l)) ++ [.str (Str.ofString ""), .str z]))) = H20 at k1320 hr20 hp ⊢
      have hall : ∀ l ∈ ys ++ [[], TL.tl z], ∀ x ∈ l, x ∈ TL.tl z := fun l hl => by
        rcases List.mem_append.mp hl with q | q
        · exact hys l q
        · rcases List.mem_cons.mp q with rfl | q
          · exact fun x hx => nomatch hx
          · rw [List.mem_singleton.mp q]
            exact fun x hx => hx
      have hlen1 : (ys ++ [[], TL.tl z]).length ≤ 8 := by rw [List.length_append]; show _ + 2 ≤ 8; omega
      generalize ys ++ [[], TL.tl z] = all at hall hr20 hlen1
      have hA := hA.kp k1320 hdp13
      have hB := hB.kp k1320 hdp13
      have hS1 := hS1.kp k1320 hdp13
      have hS2 := hS2.kp k1320 hdp13
      have htB := htB.kp k1320 hdp13
      have htW := htW.kp k1320 hdp13
      have hT := tabsN_kp hT k1320 hdp13
      clear hD17 hD7 hl2 hr1 k17 hp17 k1320 hdp13 hys hyl
      refine cols_if T.cl T.ca T.cn T.ct T.cm T.kc T.kt (v := vB) (l := r1) (xs := all.map fun l => V.str (mkS l)) rfl rfl hr20 htB (fun l' xs' H21 hl' s21 hcase => ?_)
      refine ⟨l', rfl, ⟨_, SqL.of hl'⟩, for_list (K := K) (a := l') (xs := xs') (fun j σ H23 => ∃ v9 v10 v11 v12 v13 v14 v15 v17 v19 v20 : Option V, σ = [some (.ref a), some (.ref p), some (.int (0 + i)), some (.str z), some (.ref t1), some (.ref t2), some vB, some vW, some (.ref r1), v9, v10, v11, v12, v13, v14, v15, some (.ref o1), v17, some (.ref o2), v19, v20] ∧ Same H21 H23)
        ⟨v9, v10, v11, v12, v13, v14, v15, v17, v19, v20, rfl, Same.refl _⟩ (fun j σ H23 _ ⟨_, _, _, _, _, _, _, _, _, _, _, s23⟩ => SqL.of (s23 _ _ hl')) ?_ ?_⟩
      · rintro j x σ H23 hx ⟨v9, v10, v11, v12, v13, v14, v15, v17, v19, v20, rfl, s23⟩
        have s23o := s23
        have s23 := s21.trans s23
        rcases hcase with ⟨rfl, zb, gb, eb, hout⟩ | rfl
        · by_cases hle : (pT g1 g2 z 40).1.length ≤ 40
          · obtain rfl := hsB hle
            obtain rfl := hsW hle
            obtain ⟨oB, rfl, hSB⟩ := htB
            obtain ⟨oW, rfl, hSW⟩ := htW
            rw [List.getElem?_map] at hx
            obtain ⟨l, hl, rfl⟩ := Option.map_eq_some_iff.mp hx
            have hlz := hall l (List.mem_of_getElem? hl)
            have hlz' : ∀ x ∈ TL.tl (mkS l), x ∈ TL.tl z := by rw [tl_mkS]; exact hlz
            have hstr : strange z (mkS l) = none := strange_of hlz'
            have hgr : GoodRows z.length (goals (pT g1 g2 z 40).2) := made_good hle
            have hB1 := has_pair (e1 := e1) (e2 := e2) hle true hlz
            have hB2 := has_pair (e1 := e1) (e2 := e2) hle false hlz
            refine ⟨_, rfl, _, rfl, t1, z, mkS l, g1, e1, rfl, hA.same s23, hg1, by omega, hlz', fun H24 s24 => ⟨_, rfl, _, rfl, t2, z, mkS l, g2, e2, rfl, hB.same (s23.trans s24), hg2, by omega, hlz', fun H25 s25 => ⟨_, _, rfl, ?_⟩⟩⟩
            have s2325 := (s23.trans s24).trans s25
            rw [tl_mkS]
            generalize decide (walkG g1 (TL.tl z) 0 l ∈ e1) = bA at hB1 hB2 ⊢
            generalize decide (walkG g2 (TL.tl z) 0 l ∈ e2) = bB at hB1 hB2 ⊢
            obtain ⟨dx, R5, E5, ho, hR5, hE5⟩ := id (hSB.same s2325)
            refine ⟨_, rfl, oB, dx, _, rfl, ho, sf_no _ _ _ (by decide +kernel) (by decide +kernel) (by decide +kernel), _, rfl, oB, z, mkS l, _, _, rfl, hSB.same s2325, hgr, (fun ⟨i, hi⟩ => absurd hi (by rw [hstr]; exact fun e => nomatch e)), fun _ H26 s26 => ?_⟩
            rw [tl_mkS, hB1]
            refine and_v bA bB rfl rfl ?_
            refine ⟨rfl, _, rfl, ?_⟩
            rw [show decide (V.bl (bA && (bB == true)) = V.bl (bA && bB)) = true from decide_eq_true (by cases bA <;> cases bB <;> rfl)]
            refine ite2 (fun c => absurd c (by decide)) (fun _ => ?_)
            have s2326 := s2325.trans s26
            obtain ⟨dx2, R6, E6, ho2, hR6, hE6⟩ := id (hSW.same s2326)
            refine ⟨_, rfl, oW, dx2, _, rfl, ho2, sf_no _ _ _ (by decide +kernel) (by decide +kernel) (by decide +kernel), _, rfl, oW, z, mkS l, _, _, rfl, hSW.same s2326, hgr, (fun ⟨i, hi⟩ => absurd hi (by rw [hstr]; exact fun e => nomatch e)), fun _ H27 s27 => ?_⟩
            rw [tl_mkS, hB2]
            refine and_nv bA bB rfl rfl ?_
            refine ⟨rfl, _, rfl, ?_⟩
            rw [show decide (V.bl (bA && (bB == false)) = V.bl (bA && !bB)) = true from decide_eq_true (by cases bA <;> cases bB <;> rfl)]
            refine ite2 (fun c => absurd c (by decide)) (fun _ => ?_)
            exact ⟨_, _, _, _, _, _, _, _, _, _, rfl, ((s23o.trans (s24.trans s25)).trans s26).trans s27⟩
          · rw [hmB (by omega)] at hout
            cases hout
        · exact nomatch hx
      rintro σ H30 ⟨v9, v10, v11, v12, v13, v14, v15, v17, v19, v20, rfl, s30⟩
      have s30 := s21.trans s30
      have hS1 := hS1.same s30
      have htB := htB.same s30
      have htW := htW.same s30
      have hp := hp.same s30
      have hr30 := s30 _ _ hr20
      have hT : TabsN NT H30 := hT.ext fun b o e => s30 b o e
      clear s21 s30 hl' hcase hA hB hS2 hr20
      -- of both and of none
      have hout : outB = .many ∨ ∃ gs b1 b2, outB = .shape z gs b1 ∧ outW = .shape z gs b2 ∧ GoodRows z.length gs ∧ gs.length ≤ 40 ∧ ∀ a, a ∈ b2 → ¬ a ∈ b1 := by
        by_cases hle : (pT g1 g2 z 40).1.length ≤ 40
        · refine Or.inr ⟨_, _, _, hsB hle, hsW hle, made_good hle, ?_, fun a ha => apart_no a ha⟩
          have := turns_done (pst g1 g2 (TL.tl z)) (TL.tl z) [Sum.inl 0, Sum.inl 0] hle
          unfold goals
          rw [List.length_map]
          exact Nat.le_trans (Nat.le_of_eq this) hle
        · exact Or.inl (hmB (by omega))
      refine none_if T.cl T.ca T.cn T.ct T.cm T.kc T.kt (vB := vB) (vW := vW) rfl rfl htB htW hT (by omega) hout (fun vN H31 s31 hN => ?_)
      have hS1 := hS1.sameT s31
      have hp := hp.sameT s31
      have hT := s31.tab
      have hr31 := s31.ext _ _ hr30 (fun _ z => nomatch z)
      clear hout htB htW s31 hr30
      refine g_name ?_
      dsimp only
      refine ifS_rest (R := fun H' => Same H31 H') (fun H32 s32 => ?_) (fun rest => ?_)
      · have hS1 := hS1.same s32
        have hp := hp.same s32
        have hT : TabsN NT H32 := hT.ext fun b o e => s32 b o e
        clear hN hr31 s32
        -- a shape of other values
        refine ⟨by show 4 ≤ sizeLine; decide, fun l4 hl4 => ⟨l4, rfl, ⟨_, SqL.of upd_same⟩, fun D hD => lc_list (K := K) (a := l4) (xs := words4.map V.str) (fun j H9 => H9 D = some (.lst (((words4.take j).filter fun x => !decide (x = z)).map V.str)) ∧ Same (L2.upd H32 l4 (.lst (words4.map V.str))) H9) ⟨upd_same, same_new hD⟩ (fun j H9 _ ⟨_, s9⟩ => SqL.of (s9 _ _ upd_same)) ?_ ?_⟩⟩
        · rintro j x H9 hx ⟨hD9, s9⟩
          rw [List.getElem?_map] at hx
          obtain ⟨wd, hwd, rfl⟩ := Option.map_eq_some_iff.mp hx
          obtain ⟨hj, hje⟩ := List.getElem?_eq_some_iff.mp hwd
          have hsn : words4.take (j + 1) = words4.take j ++ [wd] := by rw [take_more hj, hje]
          refine ⟨rfl, _, rfl, _, rfl, rfl, _, rfl, ite2 (fun c2 => ?_) (fun c2 => ?_)⟩
          · have c3 : (!decide (wd = z)) = true := by simpa using c2
            refine ⟨_, rfl, _, hD9, ?_, ?_, s9.put hD⟩
            · rw [List.length_map]
              have h1 := List.length_filter_le (fun x => !decide (x = z)) (words4.take j)
              have h2 : (words4.take j).length ≤ 4 := by rw [List.length_take]; exact Nat.min_le_right _ _
              exact small1000 (by omega)
            · rw [upd_same, hsn, List.filter_append, List.map_append, List.filter_cons_of_pos (by simpa using c3)]
              rfl
          · have c3 : ¬ (!decide (wd = z)) = true := by simpa using c2
            refine ⟨?_, s9⟩
            rw [hD9, hsn, List.filter_append, List.filter_cons_of_neg (by simpa using c3), List.filter_nil, List.append_nil]
        rintro H9 ⟨hD9, s9⟩
        rw [List.length_map, List.take_length] at hD9
        have s9 := (same_new (o := .lst (words4.map V.str)) hl4).trans s9
        have hS1 := hS1.same s9
        have hp := hp.same s9
        have hT : TabsN NT H9 := hT.ext fun b o e => s9 b o e
        obtain ⟨kvp9, hdp9⟩ := hp.dk
        refine ⟨_, rfl, p, c, 3, _, rfl, hp, by omega, by decide, by decide, fun d H10 d0 d1 hp k10 => ?_⟩
        have hS1 := hS1.kp k10 hdp9
        have hT := tabsN_kp hT k10 hdp9
        have hD10 := k10 _ _ hD9 (L2.ne_of hD9 hdp9 (fun z => nomatch z))
        have hw3 := words4_more z
        have hwd := List.getElem?_eq_getElem (l := words4.filter fun x => !decide (x = z)) (i := d.toNat) (by omega)
        generalize (words4.filter fun x => !decide (x = z))[d.toNat] = wd at hwd
        have hwm := List.mem_filter.mp (List.mem_of_getElem? hwd)
        have hwne : z ≠ wd := fun e => by
          have := hwm.2
          rw [e, decide_eq_true rfl] at this
          exact absurd this (by decide)
        have hw1 : wd.length ≤ 3 := words4_len wd hwm.1
        refine ⟨D, _, d, .str wd, rfl, rfl, SqL.of hD10, at_of' (Int.toNat_of_nonneg d0).symm (by rw [List.getElem?_map, hwd]; rfl), ?_⟩
        clear hD10 hD9 hw3 hwd hwm k10 hdp9 s9 hl4 hD
        -- the odd shape
        refine ⟨_, rfl, by show 1 ≤ sizeLine; decide, fun q1 hq1 => ⟨_, rfl, _, _, rfl, ⟨small13 (by omega), rfl⟩, q1, _, _, rfl, rfl, upd_same, by omega, by omega, (by show 1 * _ ≤ sizeLine; rw [Nat.one_mul, Int.toNat_natCast]; exact small13 (by omega)), fun q2 hq2 => ⟨by show 1 ≤ sizeLine; decide, fun q3 hq3 => ⟨by show 1 ≤ sizeLine; decide, fun q4 hq4 => fun x dx hx hdx ne => ?_⟩⟩⟩⟩
        have efl : (List.replicate ((wd.length : Int)).toNat [V.int 0]).flatten = (List.replicate wd.length (0 : Int)).map V.int := by
          rw [Int.toNat_natCast]
          generalize wd.length = n
          induction n with
          | zero => rfl
          | succ n ih => rw [List.replicate_succ, List.flatten_cons, ih, List.replicate_succ]; rfl
        rw [efl] at hx hdx hq3 hq4 ⊢
        have hq22 : (L2.upd (L2.upd H10 q1 (.lst [.int 0])) q2 (.lst ((List.replicate wd.length (0 : Int)).map V.int))) q2 = some (.lst ((List.replicate wd.length (0 : Int)).map V.int)) := upd_same
        have s02 : Same H10 (L2.upd (L2.upd H10 q1 (.lst [.int 0])) q2 (.lst ((List.replicate wd.length (0 : Int)).map V.int))) := (same_new hq1).trans (same_new hq2)
        generalize L2.upd (L2.upd H10 q1 (.lst [.int 0])) q2 (.lst ((List.replicate wd.length (0 : Int)).map V.int)) = H11 at hq22 s02 hq3 hq4 hx hdx ⊢
        have hq23 := same_new (o := .lst [.ref q2]) hq3 _ _ hq22
        have hq33 : (L2.upd H11 q3 (.lst [.ref q2])) q3 = some (.lst [.ref q2]) := upd_same
        have s03 := s02.trans (same_new (o := .lst [.ref q2]) hq3)
        generalize L2.upd H11 q3 (.lst [.ref q2]) = H12 at hq23 hq33 s03 hq4 hx hdx ⊢
        have hq24 := same_new (o := .lst [.int 0]) hq4 _ _ hq23
        have hq34 := same_new (o := .lst [.int 0]) hq4 _ _ hq33
        have hq44 : (L2.upd H12 q4 (.lst [.int 0])) q4 = some (.lst [.int 0]) := upd_same
        have s04 := s03.trans (same_new (o := .lst [.int 0]) hq4)
        generalize L2.upd H12 q4 (.lst [.int 0]) = H13' at hq24 hq34 hq44 s04 hx hdx ⊢
        have hx' : (L2.upd H13' dx (.own x)) x = none := by rw [upd_ne ne.symm]; exact hx
        have s6 : Same H13' (L2.upd (L2.upd H13' dx (.own x)) x (.ins C dx [])) := (same_new hdx).trans (same_new hx')
        have hRw : Dp K H13' (.ref q3) (rowsID [List.replicate wd.length (0 : Int)]) := Dp.lst (SqL.of hq34) (.cons (Dp.lst (SqL.of hq24) (dpAll_ints K _ _)) .nil)
        refine ⟨x, dx, wd, .ref q3, q4, [List.replicate wd.length (0 : Int)], [0], rfl, upd_same, Or.inl (hRw.mv (Kl.same s6)), SqL.of (s6 _ _ hq44), by omega, by show 1 ≤ 100; decide, by show 1 < 64; decide, fun r' hr' => ?_, fun _ _ H' es' hu' hm' hSo k7 => ⟨rfl, ?_⟩, fun i hb => absurd hb (not_badRow (goodRows_zero _)), fun _ i hi hb => absurd ?_ hb⟩
        · rw [List.mem_singleton.mp hr', List.length_replicate]; omega
        · have s7 : Same H13' H' := fun b u e => k7 b u (s6 b u e) fun q => by rw [q, hx] at e; cases e
          have s7 := s04.trans s7
          have hS1 := hS1.same s7
          have hp := hp.same s7
          have hT : TabsN NT H' := hT.ext fun b o e => s7 b o e
          have hzw : wd.length ≤ 26 := by omega
          have ho2 : PairOut z wd g1 [List.replicate wd.length (0 : Int)] (pgB a1 es') .unlike := .unlike hwne
          have ho3 : PairOut wd z [List.replicate wd.length (0 : Int)] g1 (pgW es' a1) .unlike := .unlike hwne.symm
          have ho4 : PairOut z wd g1 [List.replicate wd.length (0 : Int)] (pgW a1 es') .unlike := .unlike hwne
          clear s7 k7 hRw s6 hx' hx hdx s04 s03 s02 hq24 hq34 hq44 hq23 hq33 hq22 hq1 hq2 hq3 hq4 efl
          -- three functions
          refine ⟨hT, fun fm2 c2 Ha eN back Ta nf hfm hc => ⟨by show 1 ≤ sizeLine; decide, fun L hL => ?_⟩⟩
          have st : SameT NT H' Ha := ⟨eN, back, Ta⟩
          have st := st.trans (SameT.of (same_new (o := .lst [.ref fm2]) hL) Ta)
          have hLl : (L2.upd Ha L (.lst [.ref fm2])) L = some (.lst [.ref fm2]) := upd_same
          have hf2 : (L2.upd Ha L (.lst [.ref fm2])) fm2 = some (FnL fm2 (LF l_law_l2 (Q_law ++ "<lambda>") (cloFrom (cxOf (L2.CX P w) P w K mg base N_law "law" (defScope s_law) f (.ref cL) A outer s H E).env.cells (lamScope l_law_l2).names []) c2) (lamBody l_law_l2)) := same_new hL _ _ hfm
          have hc2 := same_new (o := .lst [.ref fm2]) hL _ _ hc
          change tSeq _ _ _ _ (L2.upd Ha L (.lst [.ref fm2]))
          have hL0 : H' L = none := back L hL
          generalize L2.upd Ha L (.lst [.ref fm2]) = H40 at hLl hf2 hc2 st ⊢
          clear eN back Ta nf hfm hc hL
          refine ⟨_, rfl, Or.inl ⟨rfl, _, SqL.of hLl⟩, st.tab, fun fm3 c3 Ha eN back Ta nf hfm hc => ⟨L, _, _, rfl, rfl, eN _ _ hLl (fun _ z => nomatch z), small1000 (by show 1 ≤ 1000; decide), ?_⟩⟩
          have st := (st.trans ⟨eN, back, Ta⟩).putL (o := .lst [.ref fm2, .ref fm3]) hL0 (eN _ _ hLl (fun _ z => nomatch z))
          have hLa := eN _ _ hLl (fun _ z => nomatch z)
          have hLl : (L2.upd Ha L (.lst [.ref fm2, .ref fm3])) L = some (.lst [.ref fm2, .ref fm3]) := upd_same
          have hf3 : (L2.upd Ha L (.lst [.ref fm2, .ref fm3])) fm3 = some (FnL fm3 (LF l_law_l3 (Q_law ++ "<lambda>") (cloFrom (cxOf (L2.CX P w) P w K mg base N_law "law" (defScope s_law) f (.ref cL) A outer s H E).env.cells (lamScope l_law_l3).names []) c3) (lamBody l_law_l3)) := by rw [upd_ne (L2.ne_of hfm hLa (fun z => nomatch z))]; exact hfm
          have hc3 : (L2.upd Ha L (.lst [.ref fm2, .ref fm3])) c3 = some (CodeO c3 (Q_law ++ "<lambda>")) := by rw [upd_ne (L2.ne_of hc hLa (fun z => nomatch z))]; exact hc
          have hf2 := eN _ _ hf2 (fun _ z => nomatch z)
          have hf2 : (L2.upd Ha L (.lst [.ref fm2, .ref fm3])) fm2 = _ := (upd_ne (L2.ne_of hf2 hLa (fun z => nomatch z))).trans hf2
          have hc2 := eN _ _ hc2 (fun _ z => nomatch z)
          have hc2 : (L2.upd Ha L (.lst [.ref fm2, .ref fm3])) c2 = _ := (upd_ne (L2.ne_of hc2 hLa (fun z => nomatch z))).trans hc2
          change tSeq _ _ _ _ (L2.upd Ha L (.lst [.ref fm2, .ref fm3]))
          generalize L2.upd Ha L (.lst [.ref fm2, .ref fm3]) = H43 at hLl hf2 hc2 hf3 hc3 st ⊢
          clear eN back Ta nf hfm hc hLa
          refine ⟨_, rfl, Or.inl ⟨rfl, _, SqL.of hLl⟩, st.tab, fun fm4 c4 Ha eN back Ta nf hfm hc => ⟨L, _, _, rfl, rfl, eN _ _ hLl (fun _ z => nomatch z), small1000 (by show 2 ≤ 1000; decide), ?_⟩⟩
          have st := (st.trans ⟨eN, back, Ta⟩).putL (o := .lst [.ref fm2, .ref fm3, .ref fm4]) hL0 (eN _ _ hLl (fun _ z => nomatch z))
          have hLa := eN _ _ hLl (fun _ z => nomatch z)
          have hLl : (L2.upd Ha L (.lst [.ref fm2, .ref fm3, .ref fm4])) L = some (.lst [.ref fm2, .ref fm3, .ref fm4]) := upd_same
          have hf4 : (L2.upd Ha L (.lst [.ref fm2, .ref fm3, .ref fm4])) fm4 = some (FnL fm4 (LF l_law_l4 (Q_law ++ "<lambda>") (cloFrom (cxOf (L2.CX P w) P w K mg base N_law "law" (defScope s_law) f (.ref cL) A outer s H E).env.cells (lamScope l_law_l4).names []) c4) (lamBody l_law_l4)) := by rw [upd_ne (L2.ne_of hfm hLa (fun z => nomatch z))]; exact hfm
          have hc4 : (L2.upd Ha L (.lst [.ref fm2, .ref fm3, .ref fm4])) c4 = some (CodeO c4 (Q_law ++ "<lambda>")) := by rw [upd_ne (L2.ne_of hc hLa (fun z => nomatch z))]; exact hc
          have hf2 := eN _ _ hf2 (fun _ z => nomatch z)
          have hf2 : (L2.upd Ha L (.lst [.ref fm2, .ref fm3, .ref fm4])) fm2 = _ := (upd_ne (L2.ne_of hf2 hLa (fun z => nomatch z))).trans hf2
          have hc2 := eN _ _ hc2 (fun _ z => nomatch z)
          have hc2 : (L2.upd Ha L (.lst [.ref fm2, .ref fm3, .ref fm4])) c2 = _ := (upd_ne (L2.ne_of hc2 hLa (fun z => nomatch z))).trans hc2
          have hf3 := eN _ _ hf3 (fun _ z => nomatch z)
          have hf3 : (L2.upd Ha L (.lst [.ref fm2, .ref fm3, .ref fm4])) fm3 = _ := (upd_ne (L2.ne_of hf3 hLa (fun z => nomatch z))).trans hf3
          have hc3 := eN _ _ hc3 (fun _ z => nomatch z)
          have hc3 : (L2.upd Ha L (.lst [.ref fm2, .ref fm3, .ref fm4])) c3 = _ := (upd_ne (L2.ne_of hc3 hLa (fun z => nomatch z))).trans hc3
          rw [show ([V.ref fm2, V.ref fm3] ++ [V.ref fm4] : List V) = [.ref fm2, .ref fm3, .ref fm4] from rfl]
          generalize L2.upd Ha L (.lst [.ref fm2, .ref fm3, .ref fm4]) = H44 at hLl hf2 hc2 hf3 hc3 hf4 hc4 st ⊢
          clear eN back Ta nf hfm hc hLa
          have hS1 := hS1.sameT st
          have hSo := hSo.sameT st
          have hp := hp.sameT st
          have hT := st.tab
          clear st hL0
          refine ⟨_, rfl, L, rfl, ⟨_, SqL.of hLl⟩, for_list (K := K) (a := L) (xs := [.ref fm2, .ref fm3, .ref fm4]) (fun j σ H9 => ∃ v15 v19 v20 : Option V, σ = [some (.ref a), some (.ref p), some (.int (0 + i)), some (.str z), some (.ref t1), some (.ref t2), some vB, some vW, some (.ref r1), v9, v10, v11, some vN, some (.str wd), some (.ref L), v15, some (.ref o1), some (.ref x), some (.ref o2), v19, v20] ∧ SameT NT H44 H9)
            ⟨v15, v19, v20, rfl, SameT.of (Same.refl _) hT⟩ (fun j σ H9 _ ⟨_, _, _, _, s9⟩ => SqL.of (s9.ext _ _ hLl (fun _ z => nomatch z))) ?_ ?_⟩
          · rintro j xv σ H9 hxv ⟨v15, v19, v20, rfl, st9⟩
            match j, hxv with
            | 0, hxv =>
              obtain rfl : V.ref fm2 = xv := Option.some.inj hxv
              have hf := st9.ext _ _ hf2 (fun _ z => nomatch z)
              have hc := st9.ext _ _ hc2 (fun _ z => nomatch z)
              refine ⟨_, rfl, fun cs hcap hcn => ?_⟩
              have hcap0 := cap_of (scope := lamScope l_law_l2) (fr := R_law_l2) (js := [16, 17]) hcap (cells_free nc_law_l2) nr_law_l2 rfl
              have FA := fv_of_lok cxok (lok_l2 (P := P) (w := w) (K := K) (mg := mg) (base := base) (NT := NT) (C := C) (CU := CU) (CT := CT) (o1 := o1) (o2 := x) (fg := fm2) (c' := c2) (cl := _) (q := Q_law ++ "<lambda>") T.mboth T.kboth Gboth bboth (by omega) ho2) hcap0
              have FA2 := FA.imp (S' := fun Hh => HeldL fm2 (LF l_law_l2 (Q_law ++ "<lambda>") (cloFrom (cxOf (L2.CX P w) P w K mg base N_law "law" (defScope s_law) f (.ref cL) A outer s H E).env.cells (lamScope l_law_l2).names []) c2) (lamBody l_law_l2) cs Hh ∧ ShapeAt K C Hh o1 z g1 a1 ∧ ShapeAt K C Hh x wd [List.replicate wd.length (0 : Int)] es') (sp' := spAskT K NT C CU CT .unlike)
                (fun H h => h.1) (fun vs H Q E h q => ⟨rfl, h.2.1.hid h.1.cells, h.2.2.hid h.1.cells, askT_hid hcap.data h.1.cells q⟩)
              refine ⟨fm2, _, .unlike, rfl, FA2, ⟨⟨shw_keep hcn hf, shw_keep hcn hc, held_shw⟩, (hS1.sameT st9).shw hcn, (hSo.sameT st9).shw hcn⟩, st9.tab.ext fun b o e => shw_keep hcn e, fun vq Hh st5 ht => ?_⟩
              obtain ⟨hc5, st5⟩ := sameT_hid hcap.data hcn st5
              refine ⟨hc5, ?_⟩
              have ht2 := ht.hid hc5
              generalize hid cs Hh = H51 at st5 ht2 ⊢
              have st5 := st9.trans st5
              obtain ⟨tq, rfl, ht3⟩ := ht2
              refine ⟨by show 2 ≤ sizeLine; decide, fun q hq => ⟨_, _, dp_unlike (same_new hq _ _ ht3), dp_unlike upd_same, shaped_two _ (by decide +kernel), shaped_two _ (by decide +kernel), _, rfl, ?_⟩⟩
              exact ite2 (fun c => absurd c (by simp [PyData.eqv, PyData.eqvAll])) (fun _ => ⟨_, _, _, rfl, st5.trans (SameT.of (same_new hq) st5.tab)⟩)
            | 1, hxv =>
              obtain rfl : V.ref fm3 = xv := Option.some.inj hxv
              have hf := st9.ext _ _ hf3 (fun _ z => nomatch z)
              have hc := st9.ext _ _ hc3 (fun _ z => nomatch z)
              refine ⟨_, rfl, fun cs hcap hcn => ?_⟩
              have hcap0 := cap_of (scope := lamScope l_law_l3) (fr := R_law_l3) (js := [16, 17]) hcap (cells_free nc_law_l3) nr_law_l3 rfl
              have FA := fv_of_lok cxok (lok_l3 (P := P) (w := w) (K := K) (mg := mg) (base := base) (NT := NT) (C := C) (CU := CU) (CT := CT) (o1 := x) (o2 := o1) (fg := fm3) (c' := c3) (cl := _) (q := Q_law ++ "<lambda>") T.mwithout T.kwithout Gwithout bwithout hzw ho3) hcap0
              have FA2 := FA.imp (S' := fun Hh => HeldL fm3 (LF l_law_l3 (Q_law ++ "<lambda>") (cloFrom (cxOf (L2.CX P w) P w K mg base N_law "law" (defScope s_law) f (.ref cL) A outer s H E).env.cells (lamScope l_law_l3).names []) c3) (lamBody l_law_l3) cs Hh ∧ ShapeAt K C Hh x wd [List.replicate wd.length (0 : Int)] es' ∧ ShapeAt K C Hh o1 z g1 a1) (sp' := spAskT K NT C CU CT .unlike)
                (fun H h => h.1) (fun vs H Q E h q => ⟨rfl, h.2.1.hid h.1.cells, h.2.2.hid h.1.cells, askT_hid hcap.data h.1.cells q⟩)
              refine ⟨fm3, _, .unlike, rfl, FA2, ⟨⟨shw_keep hcn hf, shw_keep hcn hc, held_shw⟩, (hSo.sameT st9).shw hcn, (hS1.sameT st9).shw hcn⟩, st9.tab.ext fun b o e => shw_keep hcn e, fun vq Hh st5 ht => ?_⟩
              obtain ⟨hc5, st5⟩ := sameT_hid hcap.data hcn st5
              refine ⟨hc5, ?_⟩
              have ht2 := ht.hid hc5
              generalize hid cs Hh = H51 at st5 ht2 ⊢
              have st5 := st9.trans st5
              obtain ⟨tq, rfl, ht3⟩ := ht2
              refine ⟨by show 2 ≤ sizeLine; decide, fun q hq => ⟨_, _, dp_unlike (same_new hq _ _ ht3), dp_unlike upd_same, shaped_two _ (by decide +kernel), shaped_two _ (by decide +kernel), _, rfl, ?_⟩⟩
              exact ite2 (fun c => absurd c (by simp [PyData.eqv, PyData.eqvAll])) (fun _ => ⟨_, _, _, rfl, st5.trans (SameT.of (same_new hq) st5.tab)⟩)
            | 2, hxv =>
              obtain rfl : V.ref fm4 = xv := Option.some.inj hxv
              have hf := st9.ext _ _ hf4 (fun _ z => nomatch z)
              have hc := st9.ext _ _ hc4 (fun _ z => nomatch z)
              refine ⟨_, rfl, fun cs hcap hcn => ?_⟩
              have hcap0 := cap_of (scope := lamScope l_law_l4) (fr := R_law_l4) (js := [16, 17]) hcap (cells_free nc_law_l4) nr_law_l4 rfl
              have FA := fv_of_lok cxok (lok_l4 (P := P) (w := w) (K := K) (mg := mg) (base := base) (NT := NT) (C := C) (CU := CU) (CT := CT) (o1 := o1) (o2 := x) (fg := fm4) (c' := c4) (cl := _) (q := Q_law ++ "<lambda>") T.mwithout T.kwithout Gwithout bwithout (by omega) ho4) hcap0
              have FA2 := FA.imp (S' := fun Hh => HeldL fm4 (LF l_law_l4 (Q_law ++ "<lambda>") (cloFrom (cxOf (L2.CX P w) P w K mg base N_law "law" (defScope s_law) f (.ref cL) A outer s H E).env.cells (lamScope l_law_l4).names []) c4) (lamBody l_law_l4) cs Hh ∧ ShapeAt K C Hh o1 z g1 a1 ∧ ShapeAt K C Hh x wd [List.replicate wd.length (0 : Int)] es') (sp' := spAskT K NT C CU CT .unlike)
                (fun H h => h.1) (fun vs H Q E h q => ⟨rfl, h.2.1.hid h.1.cells, h.2.2.hid h.1.cells, askT_hid hcap.data h.1.cells q⟩)
              refine ⟨fm4, _, .unlike, rfl, FA2, ⟨⟨shw_keep hcn hf, shw_keep hcn hc, held_shw⟩, (hS1.sameT st9).shw hcn, (hSo.sameT st9).shw hcn⟩, st9.tab.ext fun b o e => shw_keep hcn e, fun vq Hh st5 ht => ?_⟩
              obtain ⟨hc5, st5⟩ := sameT_hid hcap.data hcn st5
              refine ⟨hc5, ?_⟩
              have ht2 := ht.hid hc5
              generalize hid cs Hh = H51 at st5 ht2 ⊢
              have st5 := st9.trans st5
              obtain ⟨tq, rfl, ht3⟩ := ht2
              refine ⟨by show 2 ≤ sizeLine; decide, fun q hq => ⟨_, _, dp_unlike (same_new hq _ _ ht3), dp_unlike upd_same, shaped_two _ (by decide +kernel), shaped_two _ (by decide +kernel), _, rfl, ?_⟩⟩
              exact ite2 (fun c => absurd c (by simp [PyData.eqv, PyData.eqvAll])) (fun _ => ⟨_, _, _, rfl, st5.trans (SameT.of (same_new hq) st5.tab)⟩)
            | j + 3, hxv => exact nomatch hxv
          · rintro σ H9 ⟨v15, v19, v20, rfl, st9⟩
            exact ⟨_, _, _, _, _, _, _, _, _, _, _, _, _, _, _, _, _, _, _, rfl, (hp.sameT st9).mono (by omega), st9.tab⟩
        · obtain rfl : i = 0 := by
            have : i < 1 := hi
            omega
          exact ⟨Int.le_refl _, by show (0 : Int) < 1; decide⟩
      · rcases hN with rfl | ⟨oN, gN, eN, rfl, hSN, hgN, hno⟩
        · refine ⟨_, rfl, rfl, _, rfl, ?_⟩
          refine ite2 (fun c => absurd c (by simp)) (fun _ => ?_)
          exact ite2 (fun c => absurd c (by decide)) (fun _ => rest H31 (Same.refl _))
        · refine ⟨_, rfl, rfl, _, rfl, ?_⟩
          refine ite2 (fun _ => ?_) (fun c => absurd (by simp) c)
          refine ⟨_, rfl, r1, rfl, ⟨_, SqL.of hr31⟩, fun D hD => lc_list (K := K) (a := r1) (xs := all.map fun l => V.str (mkS l)) (fun j H9 => H9 D = some (.lst []) ∧ Same H31 H9) ⟨upd_same, same_new hD⟩ (fun j H9 _ ⟨_, s9⟩ => SqL.of (s9 _ _ hr31)) ?_ ?_⟩
          · rintro j x H9 hx ⟨hD9, s9⟩
            rw [List.getElem?_map] at hx
            obtain ⟨l, hl, rfl⟩ := Option.map_eq_some_iff.mp hx
            have hlz := hall l (List.mem_of_getElem? hl)
            have hstr : strange z (mkS l) = none := strange_of (by rw [tl_mkS]; exact hlz)
            obtain ⟨dx, R5, E5, ho, hR5, hE5⟩ := id (hSN.same s9)
            refine ⟨rfl, _, rfl, oN, dx, _, rfl, ho, sf_no _ _ _ (by decide +kernel) (by decide +kernel) (by decide +kernel), _, rfl, oN, z, mkS l, gN, eN, rfl, hSN.same s9, hgN, (fun ⟨i, hi⟩ => absurd hi (by rw [hstr]; exact fun e => nomatch e)), fun _ H10 s10 => ⟨_, rfl, ?_⟩⟩
            rw [tl_mkS]
            exact ite2 (fun c => absurd (of_decide_eq_true c) (hno l hlz)) (fun _ => ⟨s10 _ _ hD9, s9.trans s10⟩)
          · rintro H9 ⟨hD9, s9⟩
            refine ⟨by show 0 ≤ sizeLine; decide, fun q hq => ⟨.list [], .list [], .lst (SqL.of (same_new hq _ _ hD9)) .nil, .lst (SqL.of upd_same) .nil, shaped_nil, shaped_nil, _, rfl, ?_⟩⟩
            exact ite2 (fun c => absurd c (by simp [PyData.eqv, PyData.eqvAll])) (fun _ => rest _ (s9.trans (same_new hq)))
    · rintro σ H2 ⟨v2, v3, v4, v5, v6, v7, v8, v9, v10, v11, v12, v13, v14, v15, v16, v17, v18, v19, v20, rfl, hp2, hT2⟩
      exact k H2
end
end Vf
set_option Elab.async false
set_option linter.all false
set_option maxRecDepth 100000
set_option maxHeartbeats 4000000
namespace Vf
open PySem L2 PyProof.Rows
open NdefX LamX
theorem kit_self {K : PySem.W.Frag} (C : Addr) : PySem.W.kitOne K (.ref C) (.ref C) = some true := by
  unfold PySem.W.kitOne
  rw [if_pos (by simp)]
theorem kit_tupC {K : PySem.W.Frag} {C : Addr} (h : PySem.W.hasDictIn K C = true) (ht : PySem.W.typeIn K (.ref C) = some (.type "type")) (hs : PySem.W.subIn K (.type "tuple") (.ref C) = some false) : PySem.W.kitOne K (.type "tuple") (.ref C) = some false := by
  have hc : (PySem.W.clsIn K C).isSome = true := by
    unfold PySem.W.hasDictIn at h
    cases e : PySem.W.clsIn K C with
    | none => rw [e] at h; cases h
    | some c => rfl
  unfold PySem.W.kitOne
  rw [if_neg (by intro q; have := beq_iff_eq.mp q; cases this)]
  have e2 : ((PySem.W.clsIn K C).isSome && PySem.W.typeIn K (.ref C) == some (.type "type")) = true := by rw [hc, ht] <;> rfl
  show (if ((PySem.W.clsIn K C).isSome && PySem.W.typeIn K (.ref C) == some (.type "type")) = true then PySem.W.subIn K (.type "tuple") (.ref C) else none) = some false
  rw [if_pos e2]
  exact hs
theorem kit_sub {K : PySem.W.Frag} {D C : Addr} (h : PySem.W.hasDictIn K C = true) (ht : PySem.W.typeIn K (.ref C) = some (.type "type")) (ne : D ≠ C) {b : Bool} (hs : PySem.W.subIn K (.ref D) (.ref C) = some b) : PySem.W.kitOne K (.ref D) (.ref C) = some b := by
  have hc : (PySem.W.clsIn K C).isSome = true := by
    unfold PySem.W.hasDictIn at h
    cases e : PySem.W.clsIn K C with
    | none => rw [e] at h; cases h
    | some c => rfl
  unfold PySem.W.kitOne
  rw [if_neg (by intro q; exact ne (Value.ref.inj (beq_iff_eq.mp q)))]
  have e2 : ((PySem.W.clsIn K C).isSome && PySem.W.typeIn K (.ref C) == some (.type "type")) = true := by rw [hc, ht] <;> rfl
  show (if ((PySem.W.clsIn K C).isSome && PySem.W.typeIn K (.ref C) == some (.type "type")) = true then PySem.W.subIn K (.ref D) (.ref C) else none) = some b
  rw [if_pos e2]
  exact hs
abbrev nts (pBe pBo pWi pLaw : Addr) : List NTab := [(pBe, nm_beside), (pBo, fun _ _ => Q_both ++ "<lambda>"), (pWi, fun _ _ => Q_without ++ "<lambda>"), (pLaw, fun _ _ => Q_law ++ "<lambda>")]
theorem all_at {l : PySem.W.OpenLaw} {w : World} {K : PySem.W.Frag} {h : Heap} {mg : Str → Option Value} {fa fD fP fPen fLe fSh fMS fHD fCn fMe fMa fSo fSS fPa fTe fPR fCG fCD fSP fX fM fBe fBo fWi fLaw fI fLn fEq fHas fSt fBC fT C CB CT CU B cBe pBe cBo pBo cWi pWi cLaw pLaw : Addr}
    {odD anD : Option Addr} {slD : Array (Option Value)} {ocD kVD dcD pmD ctD : Value} {cdD : Value}
    {odP anP : Option Addr} {slP : Array (Option Value)} {ocP kVP dcP pmP ctP : Value} {cdP : Value}
    {odPen anPen : Option Addr} {slPen : Array (Option Value)} {ocPen kVPen dcPen pmPen ctPen : Value} {cdPen : Value}
    {odLe anLe : Option Addr} {slLe : Array (Option Value)} {ocLe kVLe dcLe pmLe ctLe : Value} {cdLe : Value}
    {odSh anSh : Option Addr} {slSh : Array (Option Value)} {ocSh kVSh dcSh pmSh ctSh : Value} {cdSh : Value}
    {odMS anMS : Option Addr} {slMS : Array (Option Value)} {ocMS kVMS dcMS pmMS ctMS : Value} {cdMS : Value}
    {odHD anHD : Option Addr} {slHD : Array (Option Value)} {ocHD kVHD dcHD pmHD ctHD : Value} {cdHD : Value}
    {odCn anCn : Option Addr} {slCn : Array (Option Value)} {ocCn kVCn dcCn pmCn ctCn : Value} {cdCn : Value}
    {odMe anMe : Option Addr} {slMe : Array (Option Value)} {ocMe kVMe dcMe pmMe ctMe : Value} {cdMe : Value}
    {odMa anMa : Option Addr} {slMa : Array (Option Value)} {ocMa kVMa dcMa pmMa ctMa : Value} {cdMa : Value}
    {odSo anSo : Option Addr} {slSo : Array (Option Value)} {ocSo kVSo dcSo pmSo ctSo : Value} {cdSo : Value}
    {odSS anSS : Option Addr} {slSS : Array (Option Value)} {ocSS kVSS dcSS pmSS ctSS : Value} {cdSS : Value}
    {odPa anPa : Option Addr} {slPa : Array (Option Value)} {ocPa kVPa dcPa pmPa ctPa : Value} {cdPa : Value}
    {odTe anTe : Option Addr} {slTe : Array (Option Value)} {ocTe kVTe dcTe pmTe ctTe : Value} {cdTe : Value}
    {odPR anPR : Option Addr} {slPR : Array (Option Value)} {ocPR kVPR dcPR pmPR ctPR : Value} {cdPR : Value}
    {odCG anCG : Option Addr} {slCG : Array (Option Value)} {ocCG kVCG dcCG pmCG ctCG : Value} {cdCG : Value}
    {odCD anCD : Option Addr} {slCD : Array (Option Value)} {ocCD kVCD dcCD pmCD ctCD : Value} {cdCD : Value}
    {odSP anSP : Option Addr} {slSP : Array (Option Value)} {ocSP kVSP dcSP pmSP ctSP : Value} {cdSP : Value}
    {odX anX : Option Addr} {slX : Array (Option Value)} {ocX kVX dcX pmX ctX : Value} {cdX : Value}
    {odM anM : Option Addr} {slM : Array (Option Value)} {ocM kVM dcM pmM ctM : Value} {cdM : Value}
    {odBe anBe : Option Addr} {slBe : Array (Option Value)} {ocBe kVBe dcBe pmBe ctBe : Value}
    {ooBe : Option Addr} {osBe : Array (Option Value)} {vsBe : Array Value}
    {odBo anBo : Option Addr} {slBo : Array (Option Value)} {ocBo kVBo dcBo pmBo ctBo : Value}
    {ooBo : Option Addr} {osBo : Array (Option Value)} {vsBo : Array Value}
    {odWi anWi : Option Addr} {slWi : Array (Option Value)} {ocWi kVWi dcWi pmWi ctWi : Value}
    {ooWi : Option Addr} {osWi : Array (Option Value)} {vsWi : Array Value}
    {odLaw anLaw : Option Addr} {slLaw : Array (Option Value)} {ocLaw kVLaw dcLaw pmLaw ctLaw : Value}
    {ooLaw : Option Addr} {osLaw : Array (Option Value)} {vsLaw : Array Value}
    {odI anI : Option Addr} {slI : Array (Option Value)} {ocI kVI dcI pmI ctI : Value} {cdI : Value}
    {odLn anLn : Option Addr} {slLn : Array (Option Value)} {ocLn kVLn dcLn pmLn ctLn : Value} {cdLn : Value}
    {odEq anEq : Option Addr} {slEq : Array (Option Value)} {ocEq kVEq dcEq pmEq ctEq : Value} {cdEq : Value}
    {odHas anHas : Option Addr} {slHas : Array (Option Value)} {ocHas kVHas dcHas pmHas ctHas : Value} {cdHas : Value}
    {odSt anSt : Option Addr} {slSt : Array (Option Value)} {ocSt kVSt dcSt pmSt ctSt : Value} {cdSt : Value}
    {odBC anBC : Option Addr} {slBC : Array (Option Value)} {ocBC kVBC dcBC pmBC ctBC : Value} {cdBC : Value}
    {odT anT : Option Addr} {slT : Array (Option Value)} {ocT kVT dcT pmT ctT : Value} {cdT : Value}
    {ebnm ebq : Str} {ebN : Addr} {ebbs : List Value} {ebsn : List Str} {ebsub : List Value} {ebab : Bool} {ebcol : Option Bool} {ebdd : Option Addr} {ebm0 ebm1 ebm2 ebm3 ebm5 : Option Value}
    {etnm etq : Str} {etN : Addr} {etbs : List Value} {etsn : List Str} {etsub : List Value} {etab : Bool} {etcol : Option Bool} {etdd : Option Addr} {etm0 etm1 etm2 etm3 etm5 : Option Value}
    (X : K.In h) (G : h.Ns mainGlobals mg) (hfa : mg "law" = some (.ref fa))
    (aD : PySem.W.nsIn K mainGlobals "_law_draw" = some (some (.ref fD)))
    (lD : K.lookup fD = some ⟨ocD, odD, .func (PySem.W.fnOf "_law_draw" "_law_draw" (defArgs s__law_draw) (defBody s__law_draw) (defScope s__law_draw) .none kVD dcD pmD anD cdD ctD), slD⟩) (cD : PySem.W.codeIn K cdD "_law_draw" = true) (kD : PySem.W.keepIn K (.ref fD) = true)
    (aP : PySem.W.nsIn K mainGlobals "_law_pick" = some (some (.ref fP)))
    (lP : K.lookup fP = some ⟨ocP, odP, .func (PySem.W.fnOf "_law_pick" "_law_pick" (defArgs s__law_pick) (defBody s__law_pick) (defScope s__law_pick) .none kVP dcP pmP anP cdP ctP), slP⟩) (cP : PySem.W.codeIn K cdP "_law_pick" = true) (kP : PySem.W.keepIn K (.ref fP) = true)
    (aPen : PySem.W.nsIn K mainGlobals "_law_pen" = some (some (.ref fPen)))
    (lPen : K.lookup fPen = some ⟨ocPen, odPen, .func (PySem.W.fnOf "_law_pen" "_law_pen" (defArgs s__law_pen) (defBody s__law_pen) (defScope s__law_pen) .none kVPen dcPen pmPen anPen cdPen ctPen), slPen⟩) (cPen : PySem.W.codeIn K cdPen "_law_pen" = true) (kPen : PySem.W.keepIn K (.ref fPen) = true)
    (aLe : PySem.W.nsIn K mainGlobals "_law_letters" = some (some (.ref fLe)))
    (lLe : K.lookup fLe = some ⟨ocLe, odLe, .func (PySem.W.fnOf "_law_letters" "_law_letters" (defArgs s__law_letters) (defBody s__law_letters) (defScope s__law_letters) .none kVLe dcLe pmLe anLe cdLe ctLe), slLe⟩) (cLe : PySem.W.codeIn K cdLe "_law_letters" = true) (kLe : PySem.W.keepIn K (.ref fLe) = true)
    (aSh : PySem.W.nsIn K mainGlobals "_law_shape" = some (some (.ref fSh)))
    (lSh : K.lookup fSh = some ⟨ocSh, odSh, .func (PySem.W.fnOf "_law_shape" "_law_shape" (defArgs s__law_shape) (defBody s__law_shape) (defScope s__law_shape) .none kVSh dcSh pmSh anSh cdSh ctSh), slSh⟩) (cSh : PySem.W.codeIn K cdSh "_law_shape" = true) (kSh : PySem.W.keepIn K (.ref fSh) = true)
    (aMS : PySem.W.nsIn K mainGlobals "_law_made_shape" = some (some (.ref fMS)))
    (lMS : K.lookup fMS = some ⟨ocMS, odMS, .func (PySem.W.fnOf "_law_made_shape" "_law_made_shape" (defArgs s__law_made_shape) (defBody s__law_made_shape) (defScope s__law_made_shape) .none kVMS dcMS pmMS anMS cdMS ctMS), slMS⟩) (cMS : PySem.W.codeIn K cdMS "_law_made_shape" = true) (kMS : PySem.W.keepIn K (.ref fMS) = true)
    (aHD : PySem.W.nsIn K mainGlobals "_law_has" = some (some (.ref fHD)))
    (lHD : K.lookup fHD = some ⟨ocHD, odHD, .func (PySem.W.fnOf "_law_has" "_law_has" (defArgs s__law_has) (defBody s__law_has) (defScope s__law_has) .none kVHD dcHD pmHD anHD cdHD ctHD), slHD⟩) (cHD : PySem.W.codeIn K cdHD "_law_has" = true) (kHD : PySem.W.keepIn K (.ref fHD) = true)
    (aCn : PySem.W.nsIn K mainGlobals "_law_column" = some (some (.ref fCn)))
    (lCn : K.lookup fCn = some ⟨ocCn, odCn, .func (PySem.W.fnOf "_law_column" "_law_column" (defArgs s__law_column) (defBody s__law_column) (defScope s__law_column) .none kVCn dcCn pmCn anCn cdCn ctCn), slCn⟩) (cCn : PySem.W.codeIn K cdCn "_law_column" = true) (kCn : PySem.W.keepIn K (.ref fCn) = true)
    (aMe : PySem.W.nsIn K mainGlobals "_law_memory" = some (some (.ref fMe)))
    (lMe : K.lookup fMe = some ⟨ocMe, odMe, .func (PySem.W.fnOf "_law_memory" "_law_memory" (defArgs s__law_memory) (defBody s__law_memory) (defScope s__law_memory) .none kVMe dcMe pmMe anMe cdMe ctMe), slMe⟩) (cMe : PySem.W.codeIn K cdMe "_law_memory" = true) (kMe : PySem.W.keepIn K (.ref fMe) = true)
    (aMa : PySem.W.nsIn K mainGlobals "_law_machine" = some (some (.ref fMa)))
    (lMa : K.lookup fMa = some ⟨ocMa, odMa, .func (PySem.W.fnOf "_law_machine" "_law_machine" (defArgs s__law_machine) (defBody s__law_machine) (defScope s__law_machine) .none kVMa dcMa pmMa anMa cdMa ctMa), slMa⟩) (cMa : PySem.W.codeIn K cdMa "_law_machine" = true) (kMa : PySem.W.keepIn K (.ref fMa) = true)
    (aSo : PySem.W.nsIn K mainGlobals "_law_sort" = some (some (.ref fSo)))
    (lSo : K.lookup fSo = some ⟨ocSo, odSo, .func (PySem.W.fnOf "_law_sort" "_law_sort" (defArgs s__law_sort) (defBody s__law_sort) (defScope s__law_sort) .none kVSo dcSo pmSo anSo cdSo ctSo), slSo⟩) (cSo : PySem.W.codeIn K cdSo "_law_sort" = true) (kSo : PySem.W.keepIn K (.ref fSo) = true)
    (aSS : PySem.W.nsIn K mainGlobals "_law_some_shape" = some (some (.ref fSS)))
    (lSS : K.lookup fSS = some ⟨ocSS, odSS, .func (PySem.W.fnOf "_law_some_shape" "_law_some_shape" (defArgs s__law_some_shape) (defBody s__law_some_shape) (defScope s__law_some_shape) .none kVSS dcSS pmSS anSS cdSS ctSS), slSS⟩) (cSS : PySem.W.codeIn K cdSS "_law_some_shape" = true) (kSS : PySem.W.keepIn K (.ref fSS) = true)
    (aPa : PySem.W.nsIn K mainGlobals "_law_pairs" = some (some (.ref fPa)))
    (lPa : K.lookup fPa = some ⟨ocPa, odPa, .func (PySem.W.fnOf "_law_pairs" "_law_pairs" (defArgs s__law_pairs) (defBody s__law_pairs) (defScope s__law_pairs) .none kVPa dcPa pmPa anPa cdPa ctPa), slPa⟩) (cPa : PySem.W.codeIn K cdPa "_law_pairs" = true) (kPa : PySem.W.keepIn K (.ref fPa) = true)
    (aTe : PySem.W.nsIn K mainGlobals "_law_told" = some (some (.ref fTe)))
    (lTe : K.lookup fTe = some ⟨ocTe, odTe, .func (PySem.W.fnOf "_law_told" "_law_told" (defArgs s__law_told) (defBody s__law_told) (defScope s__law_told) .none kVTe dcTe pmTe anTe cdTe ctTe), slTe⟩) (cTe : PySem.W.codeIn K cdTe "_law_told" = true) (kTe : PySem.W.keepIn K (.ref fTe) = true)
    (aPR : PySem.W.nsIn K mainGlobals "_law_pair_right" = some (some (.ref fPR)))
    (lPR : K.lookup fPR = some ⟨ocPR, odPR, .func (PySem.W.fnOf "_law_pair_right" "_law_pair_right" (defArgs s__law_pair_right) (defBody s__law_pair_right) (defScope s__law_pair_right) .none kVPR dcPR pmPR anPR cdPR ctPR), slPR⟩) (cPR : PySem.W.codeIn K cdPR "_law_pair_right" = true) (kPR : PySem.W.keepIn K (.ref fPR) = true)
    (aCG : PySem.W.nsIn K mainGlobals "check_goals" = some (some (.ref fCG)))
    (lCG : K.lookup fCG = some ⟨ocCG, odCG, .func (PySem.W.fnOf "check_goals" "check_goals" (defArgs s_check_goals) (defBody s_check_goals) (defScope s_check_goals) .none kVCG dcCG pmCG anCG cdCG ctCG), slCG⟩) (cCG : PySem.W.codeIn K cdCG "check_goals" = true) (kCG : PySem.W.keepIn K (.ref fCG) = true)
    (aCD : PySem.W.nsIn K mainGlobals "check_good" = some (some (.ref fCD)))
    (lCD : K.lookup fCD = some ⟨ocCD, odCD, .func (PySem.W.fnOf "check_good" "check_good" (defArgs s_check_good) (defBody s_check_good) (defScope s_check_good) .none kVCD dcCD pmCD anCD cdCD ctCD), slCD⟩) (cCD : PySem.W.codeIn K cdCD "check_good" = true) (kCD : PySem.W.keepIn K (.ref fCD) = true)
    (aSP : PySem.W.nsIn K mainGlobals "strange_place" = some (some (.ref fSP)))
    (lSP : K.lookup fSP = some ⟨ocSP, odSP, .func (PySem.W.fnOf "strange_place" "strange_place" (defArgs s_strange_place) (defBody s_strange_place) (defScope s_strange_place) .none kVSP dcSP pmSP anSP cdSP ctSP), slSP⟩) (cSP : PySem.W.codeIn K cdSP "strange_place" = true) (kSP : PySem.W.keepIn K (.ref fSP) = true)
    (aX : PySem.W.nsIn K mainGlobals "explored" = some (some (.ref fX)))
    (lX : K.lookup fX = some ⟨ocX, odX, .func (PySem.W.fnOf "explored" "explored" (defArgs s_explored) (defBody s_explored) (defScope s_explored) .none kVX dcX pmX anX cdX ctX), slX⟩) (cX : PySem.W.codeIn K cdX "explored" = true) (kX : PySem.W.keepIn K (.ref fX) = true)
    (aM : PySem.W.nsIn K mainGlobals "made" = some (some (.ref fM)))
    (lM : K.lookup fM = some ⟨ocM, odM, .func (PySem.W.fnOf "made" "made" (defArgs s_made) (defBody s_made) (defScope s_made) .none kVM dcM pmM anM cdM ctM), slM⟩) (cM : PySem.W.codeIn K cdM "made" = true) (kM : PySem.W.keepIn K (.ref fM) = true)
    (aBe : PySem.W.nsIn K mainGlobals "beside" = some (some (.ref fBe)))
    (lBe : K.lookup fBe = some ⟨ocBe, odBe, .func (PySem.W.fnOf "beside" "beside" (defArgs s_beside) (defBody s_beside) (defScope s_beside) .none kVBe dcBe pmBe anBe (.ref cBe) ctBe), slBe⟩) (chBe : PySem.W.codeIn K (.ref cBe) "beside" = true) (kBe : PySem.W.keepIn K (.ref fBe) = true)
    (oBe : K.lookup cBe = some ⟨.type "code", ooBe, .fields vsBe, osBe⟩) (eBe : vsBe[11]? = some (.ref pBe)) (qBe : PySem.W.codeHdIn K cBe pBe = true) (nBe : K.lookup pBe = none) (tBe : h.get? pBe = some { cls := .none, data := .fields #[] })
    (aBo : PySem.W.nsIn K mainGlobals "both" = some (some (.ref fBo)))
    (lBo : K.lookup fBo = some ⟨ocBo, odBo, .func (PySem.W.fnOf "both" "both" (defArgs s_both) (defBody s_both) (defScope s_both) .none kVBo dcBo pmBo anBo (.ref cBo) ctBo), slBo⟩) (chBo : PySem.W.codeIn K (.ref cBo) "both" = true) (kBo : PySem.W.keepIn K (.ref fBo) = true)
    (oBo : K.lookup cBo = some ⟨.type "code", ooBo, .fields vsBo, osBo⟩) (eBo : vsBo[11]? = some (.ref pBo)) (qBo : PySem.W.codeHdIn K cBo pBo = true) (nBo : K.lookup pBo = none) (tBo : h.get? pBo = some { cls := .none, data := .fields #[] })
    (aWi : PySem.W.nsIn K mainGlobals "without" = some (some (.ref fWi)))
    (lWi : K.lookup fWi = some ⟨ocWi, odWi, .func (PySem.W.fnOf "without" "without" (defArgs s_without) (defBody s_without) (defScope s_without) .none kVWi dcWi pmWi anWi (.ref cWi) ctWi), slWi⟩) (chWi : PySem.W.codeIn K (.ref cWi) "without" = true) (kWi : PySem.W.keepIn K (.ref fWi) = true)
    (oWi : K.lookup cWi = some ⟨.type "code", ooWi, .fields vsWi, osWi⟩) (eWi : vsWi[11]? = some (.ref pWi)) (qWi : PySem.W.codeHdIn K cWi pWi = true) (nWi : K.lookup pWi = none) (tWi : h.get? pWi = some { cls := .none, data := .fields #[] })
    (aLaw : PySem.W.nsIn K mainGlobals "law" = some (some (.ref fLaw)))
    (lLaw : K.lookup fLaw = some ⟨ocLaw, odLaw, .func (PySem.W.fnOf "law" "law" (defArgs s_law) (defBody s_law) (defScope s_law) .none kVLaw dcLaw pmLaw anLaw (.ref cLaw) ctLaw), slLaw⟩) (chLaw : PySem.W.codeIn K (.ref cLaw) "law" = true) (kLaw : PySem.W.keepIn K (.ref fLaw) = true)
    (oLaw : K.lookup cLaw = some ⟨.type "code", ooLaw, .fields vsLaw, osLaw⟩) (eLaw : vsLaw[11]? = some (.ref pLaw)) (qLaw : PySem.W.codeHdIn K cLaw pLaw = true) (nLaw : K.lookup pLaw = none) (tLaw : h.get? pLaw = some { cls := .none, data := .fields #[] })
    (aI : PySem.W.findIn K (.ref C) "__init__" = some (some (.ref fI))) (iI : PySem.W.isFn K (.ref fI) = true)
    (lI : K.lookup fI = some ⟨ocI, odI, .func (PySem.W.fnOf "__init__" "Shape.__init__" (defArgs s_Shape___init__) (defBody s_Shape___init__) (defScope s_Shape___init__) .none kVI dcI pmI anI cdI ctI), slI⟩) (cI : PySem.W.codeIn K cdI "Shape.__init__" = true) (kI : PySem.W.keepIn K (.ref fI) = true)
    (aLn : PySem.W.findIn K (.ref C) "__len__" = some (some (.ref fLn))) (iLn : PySem.W.isFn K (.ref fLn) = true)
    (lLn : K.lookup fLn = some ⟨ocLn, odLn, .func (PySem.W.fnOf "__len__" "Shape.__len__" (defArgs s_Shape___len__) (defBody s_Shape___len__) (defScope s_Shape___len__) .none kVLn dcLn pmLn anLn cdLn ctLn), slLn⟩) (cLn : PySem.W.codeIn K cdLn "Shape.__len__" = true) (kLn : PySem.W.keepIn K (.ref fLn) = true)
    (aEq : PySem.W.findIn K (.ref C) "__eq__" = some (some (.ref fEq))) (iEq : PySem.W.isFn K (.ref fEq) = true)
    (lEq : K.lookup fEq = some ⟨ocEq, odEq, .func (PySem.W.fnOf "__eq__" "Shape.__eq__" (defArgs s_Shape___eq__) (defBody s_Shape___eq__) (defScope s_Shape___eq__) .none kVEq dcEq pmEq anEq cdEq ctEq), slEq⟩) (cEq : PySem.W.codeIn K cdEq "Shape.__eq__" = true) (kEq : PySem.W.keepIn K (.ref fEq) = true)
    (aHas : PySem.W.findIn K (.ref C) "has" = some (some (.ref fHas))) (iHas : PySem.W.isFn K (.ref fHas) = true)
    (lHas : K.lookup fHas = some ⟨ocHas, odHas, .func (PySem.W.fnOf "has" "Shape.has" (defArgs s_Shape_has) (defBody s_Shape_has) (defScope s_Shape_has) .none kVHas dcHas pmHas anHas cdHas ctHas), slHas⟩) (cHas : PySem.W.codeIn K cdHas "Shape.has" = true) (kHas : PySem.W.keepIn K (.ref fHas) = true)
    (aSt : PySem.W.findIn K (.ref C) "step" = some (some (.ref fSt))) (iSt : PySem.W.isFn K (.ref fSt) = true)
    (lSt : K.lookup fSt = some ⟨ocSt, odSt, .func (PySem.W.fnOf "step" "Shape.step" (defArgs s_Shape_step) (defBody s_Shape_step) (defScope s_Shape_step) .none kVSt dcSt pmSt anSt cdSt ctSt), slSt⟩) (cSt : PySem.W.codeIn K cdSt "Shape.step" = true) (kSt : PySem.W.keepIn K (.ref fSt) = true)
    (aBC : PySem.W.findIn K (.ref CB) "__init__" = some (some (.ref fBC))) (iBC : PySem.W.isFn K (.ref fBC) = true)
    (lBC : K.lookup fBC = some ⟨ocBC, odBC, .func (PySem.W.fnOf "__init__" "BadCode.__init__" (defArgs s_BadCode___init__) (defBody s_BadCode___init__) (defScope s_BadCode___init__) .none kVBC dcBC pmBC anBC cdBC ctBC), slBC⟩) (cBC : PySem.W.codeIn K cdBC "BadCode.__init__" = true) (kBC : PySem.W.keepIn K (.ref fBC) = true)
    (aT : PySem.W.findIn K (.ref CT) "__init__" = some (some (.ref fT))) (iT : PySem.W.isFn K (.ref fT) = true)
    (lT : K.lookup fT = some ⟨ocT, odT, .func (PySem.W.fnOf "__init__" "TooMany.__init__" (defArgs s_TooMany___init__) (defBody s_TooMany___init__) (defScope s_TooMany___init__) .none kVT dcT pmT anT cdT ctT), slT⟩) (cT : PySem.W.codeIn K cdT "TooMany.__init__" = true) (kT : PySem.W.keepIn K (.ref fT) = true)
    (dBeBo : pBe ≠ pBo)
    (dBeWi : pBe ≠ pWi)
    (dBoWi : pBo ≠ pWi)
    (dBeLaw : pBe ≠ pLaw)
    (dBoLaw : pBo ≠ pLaw)
    (dWiLaw : pWi ≠ pLaw)
    (z_int : PySem.W.nsIn K mainGlobals "int" = some none)
    (z_len : PySem.W.nsIn K mainGlobals "len" = some none)
    (z_list : PySem.W.nsIn K mainGlobals "list" = some none)
    (z_range : PySem.W.nsIn K mainGlobals "range" = some none)
    (z_sorted : PySem.W.nsIn K mainGlobals "sorted" = some none)
    (z_any : PySem.W.nsIn K mainGlobals "any" = some none)
    (z_tuple : PySem.W.nsIn K mainGlobals "tuple" = some none)
    (z_enumerate : PySem.W.nsIn K mainGlobals "enumerate" = some none)
    (z_min : PySem.W.nsIn K mainGlobals "min" = some none)
    (z_set : PySem.W.nsIn K mainGlobals "set" = some none)
    (z_isinstance : PySem.W.nsIn K mainGlobals "isinstance" = some none)
    (ebC : PySem.W.nsIn K mainGlobals "BadCode" = some (some (.ref CB))) (ebL : K.lookup CB = some (excClassObj ebnm ebq CB ebN ebbs [.ref B, .type "ValueError", .type "Exception", .type "BaseException", .type "object"] true ebsn ebsub ebab ebcol ebdd ebm0 ebm1 ebm2 ebm3 ebm5 "ValueError.__new__"))
    (ebsa : PySem.W.findIn K (.ref CB) "__setattr__" = some (some (.builtin "object.__setattr__"))) (ebex : PySem.W.subIn K (.ref CB) (.type "BaseException") = some true) (ebty : PySem.W.typeIn K (.ref CB) = some (.type "type")) (ebkc : PySem.W.keepIn K (.ref CB) = true)
    (ebtI : PySem.W.typeIn K (.ref fBC) = some (.type "function")) (ebnf : PySem.W.findIn K (.ref CB) "state" = some none)
    (ebga : PySem.W.findIn K (.ref CB) "__getattribute__" = some (some (.builtin "BaseException.__getattribute__"))) (ebgg : PySem.W.findIn K (.ref CB) "__getattr__" = some none) (ebhd : PySem.W.hasDictIn K CB = true) (ebss : PySem.W.subIn K (.ref CB) (.ref CB) = some true)
    (etC : PySem.W.nsIn K mainGlobals "TooMany" = some (some (.ref CT))) (etL : K.lookup CT = some (excClassObj etnm etq CT etN etbs [.ref B, .type "ValueError", .type "Exception", .type "BaseException", .type "object"] true etsn etsub etab etcol etdd etm0 etm1 etm2 etm3 etm5 "ValueError.__new__"))
    (etsa : PySem.W.findIn K (.ref CT) "__setattr__" = some (some (.builtin "object.__setattr__"))) (etex : PySem.W.subIn K (.ref CT) (.type "BaseException") = some true) (etty : PySem.W.typeIn K (.ref CT) = some (.type "type")) (etkc : PySem.W.keepIn K (.ref CT) = true)
    (ettI : PySem.W.typeIn K (.ref fT) = some (.type "function")) (etnf : PySem.W.findIn K (.ref CT) "what" = some none)
    (etga : PySem.W.findIn K (.ref CT) "__getattribute__" = some (some (.builtin "BaseException.__getattribute__"))) (etgg : PySem.W.findIn K (.ref CT) "__getattr__" = some none) (ethd : PySem.W.hasDictIn K CT = true) (etss : PySem.W.subIn K (.ref CT) (.ref CT) = some true)
    (BC : PySem.W.nsIn K mainGlobals "CodeError" = some (some (.ref B))) (Bs0 : PySem.W.specialIn K (.ref B) "__getattribute__" = some (some (.builtin "type.__getattribute__"))) (Br : PySem.W.readsIn K B (.type "type") = true)
    (Bv : PySem.W.findCls K (.ref B) (.type "type") "__init__" = some (.val (.builtin "ValueError.__init__")))
    (euC : PySem.W.nsIn K mainGlobals "Unlike" = some (some (.ref CU))) (euq : PySem.W.excIn K CU [.type "ValueError", .type "Exception", .type "BaseException", .type "object"] "ValueError.__new__" = true) (eukc : PySem.W.keepIn K (.ref CU) = true) (euex : PySem.W.subIn K (.ref CU) (.type "BaseException") = some true) (euty : PySem.W.typeIn K (.ref CU) = some (.type "type")) (euhd : PySem.W.hasDictIn K CU = true) (euss : PySem.W.subIn K (.ref CU) (.ref CU) = some true)
    (ms : ∃ t, mg "MOST_STATES" = some (.int 40 t))
    (cC : PySem.W.nsIn K mainGlobals "Shape" = some (some (.ref C))) (cpg : PySem.W.plainGet K C Str.empty = true) (chd : PySem.W.hasDictIn K C = true) (cpo : PySem.W.plainOver K C = true) (csa : PySem.W.findIn K (.ref C) "__setattr__" = some (some (.builtin "object.__setattr__"))) (cmk : PySem.W.makesIn K C = true) (ckc : PySem.W.keepIn K (.ref C) = true)
    (cnL : PySem.W.findIn K (.ref C) "letters" = some none) (cnR : PySem.W.findIn K (.ref C) "rows" = some none) (cnE : PySem.W.findIn K (.ref C) "good" = some none)
    (qa : PySem.W.findIn K (.ref C) "__class__" = some (some (.builtin "object.__class__"))) (qn : PySem.W.specialIn K (.builtin "object.__class__") "__get__" = some (some (.builtin "getset_descriptor.__get__"))) (qt : PySem.W.takesIn K (.builtin "object.__class__") = some true) (qm : PySem.W.mroIn K C (.type "object") = some true)
    (qy : PySem.W.typeIn K (.ref C) = some (.type "type")) (qs : PySem.W.subIn K (.type "tuple") (.ref C) = some false)
    (etca : PySem.W.findIn K (.ref CT) "__class__" = some (some (.builtin "object.__class__"))) (etmo : PySem.W.mroIn K CT (.type "object") = some true)
    (euga : PySem.W.findIn K (.ref CU) "__getattribute__" = some (some (.builtin "BaseException.__getattribute__"))) (eugg : PySem.W.findIn K (.ref CU) "__getattr__" = some none) (euca : PySem.W.findIn K (.ref CU) "__class__" = some (some (.builtin "object.__class__"))) (eumo : PySem.W.mroIn K CU (.type "object") = some true)
    (eut : PySem.W.subIn K (.ref CU) (.ref CT) = some false) (Bhd : PySem.W.hasDictIn K B = true) (Bty : PySem.W.typeIn K (.ref B) = some (.type "type")) (etB : PySem.W.subIn K (.ref CT) (.ref B) = some true) (euB : PySem.W.subIn K (.ref CU) (.ref B) = some true) (netB : CT ≠ B) (neuB : CU ≠ B) :
    LawAtS l w K (L2.CX l.prog w) 15 63 "_law_script" mg fa h := by
  have e := hfa.symm.trans (PySem.W.mg_of X G aLaw)
  cases e
  have FD := fun_mk (st := s__law_draw) lD cD kD
  have bD := FD.binds (ps := P__law_draw) fun _ _ _ _ _ _ us hl => match us, hl with | [_, _], _ => rfl
  have FP := fun_mk (st := s__law_pick) lP cP kP
  have bP := FP.binds (ps := P__law_pick) fun _ _ _ _ _ _ us hl => match us, hl with | [_, _], _ => rfl
  have FPen := fun_mk (st := s__law_pen) lPen cPen kPen
  have bPen := FPen.binds (ps := P__law_pen) fun _ _ _ _ _ _ us hl => match us, hl with | [_], _ => rfl
  have FLe := fun_mk (st := s__law_letters) lLe cLe kLe
  have bLe := FLe.binds (ps := P__law_letters) fun _ _ _ _ _ _ us hl => match us, hl with | [_, _], _ => rfl
  have FSh := fun_mk (st := s__law_shape) lSh cSh kSh
  have bSh := FSh.binds (ps := P__law_shape) fun _ _ _ _ _ _ us hl => match us, hl with | [_, _, _], _ => rfl
  have FMS := fun_mk (st := s__law_made_shape) lMS cMS kMS
  have bMS := FMS.binds (ps := P__law_made_shape) fun _ _ _ _ _ _ us hl => match us, hl with | [_], _ => rfl
  have FHD := fun_mk (st := s__law_has) lHD cHD kHD
  have bHD := FHD.binds (ps := P__law_has) fun _ _ _ _ _ _ us hl => match us, hl with | [_, _], _ => rfl
  have FCn := fun_mk (st := s__law_column) lCn cCn kCn
  have bCn := FCn.binds (ps := P__law_column) fun _ _ _ _ _ _ us hl => match us, hl with | [_, _, _], _ => rfl
  have FMe := fun_mk (st := s__law_memory) lMe cMe kMe
  have bMe := FMe.binds (ps := P__law_memory) fun _ _ _ _ _ _ us hl => match us, hl with | [_, _, _], _ => rfl
  have FMa := fun_mk (st := s__law_machine) lMa cMa kMa
  have bMa := FMa.binds (ps := P__law_machine) fun _ _ _ _ _ _ us hl => match us, hl with | [_, _], _ => rfl
  have FSo := fun_mk (st := s__law_sort) lSo cSo kSo
  have bSo := FSo.binds (ps := P__law_sort) fun _ _ _ _ _ _ us hl => match us, hl with | [_, _], _ => rfl
  have FSS := fun_mk (st := s__law_some_shape) lSS cSS kSS
  have bSS := FSS.binds (ps := P__law_some_shape) fun _ _ _ _ _ _ us hl => match us, hl with | [_, _], _ => rfl
  have FPa := fun_mk (st := s__law_pairs) lPa cPa kPa
  have bPa := FPa.binds (ps := P__law_pairs) fun _ _ _ _ _ _ us hl => match us, hl with | [_, _], _ => rfl
  have FTe := fun_mk (st := s__law_told) lTe cTe kTe
  have bTe := FTe.binds (ps := P__law_told) fun _ _ _ _ _ _ us hl => match us, hl with | [_], _ => rfl
  have FPR := fun_mk (st := s__law_pair_right) lPR cPR kPR
  have bPR := FPR.binds (ps := P__law_pair_right) fun _ _ _ _ _ _ us hl => match us, hl with | [_, _, _, _], _ => rfl
  have FCG := fun_mk (st := s_check_goals) lCG cCG kCG
  have bCG := FCG.binds (ps := P_check_goals) fun _ _ _ _ _ _ us hl => match us, hl with | [_, _], _ => rfl
  have FCD := fun_mk (st := s_check_good) lCD cCD kCD
  have bCD := FCD.binds (ps := P_check_good) fun _ _ _ _ _ _ us hl => match us, hl with | [_, _], _ => rfl
  have FSP := fun_mk (st := s_strange_place) lSP cSP kSP
  have bSP := FSP.binds (ps := P_strange_place) fun _ _ _ _ _ _ us hl => match us, hl with | [_, _], _ => rfl
  have FX := fun_mk (st := s_explored) lX cX kX
  have bX := FX.binds (ps := P_explored) fun _ _ _ _ _ _ us hl => match us, hl with | [_, _, _, _], _ => rfl
  have FM := fun_mk (st := s_made) lM cM kM
  have bM := FM.binds (ps := P_made) fun _ _ _ _ _ _ us hl => match us, hl with | [_, _, _, _], _ => rfl
  have FBe := funC_mk (st := s_beside) lBe chBe kBe
  have bBe := FBe.fun.binds (ps := P_beside) fun _ _ _ _ _ _ us hl => match us, hl with | [_, _, _], _ => rfl
  have FBo := funC_mk (st := s_both) lBo chBo kBo
  have bBo := FBo.fun.binds (ps := P_both) fun _ _ _ _ _ _ us hl => match us, hl with | [_, _], _ => rfl
  have FWi := funC_mk (st := s_without) lWi chWi kWi
  have bWi := FWi.fun.binds (ps := P_without) fun _ _ _ _ _ _ us hl => match us, hl with | [_, _], _ => rfl
  have FLaw := funC_mk (st := s_law) lLaw chLaw kLaw
  have FI := fun_mk (st := s_Shape___init__) lI cI kI
  have bI := FI.binds (ps := P_Shape___init__) fun _ _ _ _ _ _ us hl => match us, hl with | [_, _, _, _], _ => rfl
  have FLn := fun_mk (st := s_Shape___len__) lLn cLn kLn
  have bLn := FLn.binds (ps := P_Shape___len__) fun _ _ _ _ _ _ us hl => match us, hl with | [_], _ => rfl
  have FEq := fun_mk (st := s_Shape___eq__) lEq cEq kEq
  have bEq := FEq.binds (ps := P_Shape___eq__) fun _ _ _ _ _ _ us hl => match us, hl with | [_, _], _ => rfl
  have FHas := fun_mk (st := s_Shape_has) lHas cHas kHas
  have bHas := FHas.binds (ps := P_Shape_has) fun _ _ _ _ _ _ us hl => match us, hl with | [_, _], _ => rfl
  have FSt := fun_mk (st := s_Shape_step) lSt cSt kSt
  have bSt := FSt.binds (ps := P_Shape_step) fun _ _ _ _ _ _ us hl => match us, hl with | [_, _, _], _ => rfl
  have FBC := fun_mk (st := s_BadCode___init__) lBC cBC kBC
  have bBC := FBC.binds (ps := P_BadCode___init__) fun _ _ _ _ _ _ us hl => match us, hl with | [_, _], _ => rfl
  have FT := fun_mk (st := s_TooMany___init__) lT cT kT
  have bT := FT.binds (ps := P_TooMany___init__) fun _ _ _ _ _ _ us hl => match us, hl with | [_, _], _ => rfl
  have TB : BaseT K mg "CodeError" B := ⟨PySem.W.mg_of X G BC, Bs0, Br, Bv⟩
  have Eeb : ErrT K mg "BadCode" "state" CB fBC := ⟨⟨⟨ebnm, ebq, ebN, ebbs, _, ebsn, ebsub, ebab, ebcol, ebdd, ebm0, ebm1, ebm2, ebm3, ebm5, ebL, by rfl⟩, ebsa, ebex, ebty, ebkc⟩, PySem.W.mg_of X G ebC, aBC, ebtI, ebnf, ⟨ebga, ebgg, ebex, ebhd⟩⟩
  have Eet : ErrT K mg "TooMany" "what" CT fT := ⟨⟨⟨etnm, etq, etN, etbs, _, etsn, etsub, etab, etcol, etdd, etm0, etm1, etm2, etm3, etm5, etL, by rfl⟩, etsa, etex, etty, etkc⟩, PySem.W.mg_of X G etC, aT, ettI, etnf, ⟨etga, etgg, etex, ethd⟩⟩
  have Eeu : PlainE K mg "Unlike" CU [.type "ValueError", .type "Exception", .type "BaseException", .type "object"] "ValueError.__new__" := ⟨euq, PySem.W.mg_of X G euC, eukc, euex, euty⟩
  have TC : TxtC K mg B CB fBC := { len := PySem.W.mg_none_of X G z_len, any := PySem.W.mg_none_of X G z_any, tuple := PySem.W.mg_none_of X G z_tuple, enumerate := PySem.W.mg_none_of X G z_enumerate, sorted := PySem.W.mg_none_of X G z_sorted, set := PySem.W.mg_none_of X G z_set, base := TB, bc := Eeb }
  have TS : TxtS K mg C fCG fCD B CB fBC := { TC with cl := ⟨cpg, chd, cpo, csa⟩, nL := cnL, nR := cnR, nG := cnE, mgShape := PySem.W.mg_of X G cC, mcheck_goals := PySem.W.mg_of X G aCG, kcheck_goals := kCG, mcheck_good := PySem.W.mg_of X G aCD, kcheck_good := kCD }
  have TM : TxtMS K mg C fCG fCD B CB fBC fX := { TS with mexplored := PySem.W.mg_of X G aX, kexplored := kX, most := ms }
  have TSM : TxtSM K mg C fCG fCD B CB fBC fSP fSt fEq fLn := { TS with mstrange_place := PySem.W.mg_of X G aSP, kstrange_place := kSP, mtSt := ⟨aSt, iSt, kSt⟩, isinstance := PySem.W.mg_none_of X G z_isinstance, ca := qa, cn := qn, ct := qt, cm := qm, kc := kit_self C, eqs := aEq, eqf := iEq, lns := aLn, lnf := iLn }
  have TE : TxtE K mg B CT fT := ⟨PySem.W.mg_none_of X G z_len, TB, Eet⟩
  have TMk : TxtMk K mg fM := ⟨PySem.W.mg_of X G aM, kM⟩
  have TTe : TxtTe K mg B CU CT fT := { tm := Eet, gU := PySem.W.mg_of X G euC, gB := PySem.W.mg_of X G BC, isinstance := PySem.W.mg_none_of X G z_isinstance, tt := PySem.W.exm_ref etex ethd etty etss, ut := PySem.W.exm_ref etex ethd etty eut, uu := PySem.W.exm_ref euex euhd euty euss, cT := ⟨etga, etgg, etex, ethd, etca, qn, qt, etmo⟩, cU := ⟨euga, eugg, euex, euhd, euca, qn, qt, eumo⟩, kT := kit_sub Bhd Bty netB etB, kU := kit_sub Bhd Bty neuB euB }
  have TP : TxtP K mg fD fP := { int := PySem.W.mg_none_of X G z_int, len := PySem.W.mg_none_of X G z_len, list := PySem.W.mg_none_of X G z_list, range := PySem.W.mg_none_of X G z_range, sorted := PySem.W.mg_none_of X G z_sorted, m_law_draw := PySem.W.mg_of X G aD, k_law_draw := kD, m_law_pick := PySem.W.mg_of X G aP, k_law_pick := kP }
  have TSom : TxtSom K mg fD fP fMa fSo fSh := { TP with m_law_machine := PySem.W.mg_of X G aMa, k_law_machine := kMa, m_law_sort := PySem.W.mg_of X G aSo, k_law_sort := kSo, m_law_shape := PySem.W.mg_of X G aSh, k_law_shape := kSh }
  have TPr : TxtPr K mg C fCG fCD B CB fBC fSP fSt fEq fLn fPa := { TSM with range := PySem.W.mg_none_of X G z_range, m_law_pairs := PySem.W.mg_of X G aPa, k_law_pairs := kPa }
  have TMa : TxtMa K mg fMe := ⟨⟨PySem.W.mg_none_of X G z_range, PySem.W.mg_none_of X G z_len⟩, PySem.W.mg_of X G aMe, kMe⟩
  have TZ : TxtZX K mg C fPen fLe fSS fMS fTe fPR fCn fHD fBo fWi := { m_law_pen := PySem.W.mg_of X G aPen, k_law_pen := kPen, m_law_letters := PySem.W.mg_of X G aLe, k_law_letters := kLe, m_law_some_shape := PySem.W.mg_of X G aSS, k_law_some_shape := kSS, m_law_made_shape := PySem.W.mg_of X G aMS, k_law_made_shape := kMS, m_law_told := PySem.W.mg_of X G aTe, k_law_told := kTe, m_law_pair_right := PySem.W.mg_of X G aPR, k_law_pair_right := kPR, m_law_column := PySem.W.mg_of X G aCn, k_law_column := kCn, m_law_has := PySem.W.mg_of X G aHD, k_law_has := kHD, mboth := PySem.W.mg_of X G aBo, kboth := kBo, mwithout := PySem.W.mg_of X G aWi, kwithout := kWi, min := PySem.W.mg_none_of X G z_min, kt := kit_tupC chd qy qs }
  have TA : TxtAll K mg fD fP fPen fLe fSS fMS fTe fPR fCn fHD fBo fWi C fCG fCD B CB fBC fSP fSt fEq fLn := { TP, TZ, TSM with }
  have memP : ∀ {Q : Addr × Addr → Prop}, Q (cBe, pBe) → Q (cBo, pBo) → Q (cWi, pWi) → Q (cLaw, pLaw) → ∀ p ∈ [(cBe, pBe), (cBo, pBo), (cWi, pWi), (cLaw, pLaw)], Q p := fun hBe hBo hWi hLaw => List.forall_mem_cons.mpr ⟨hBe, List.forall_mem_cons.mpr ⟨hBo, List.forall_mem_cons.mpr ⟨hWi, List.forall_mem_cons.mpr ⟨hLaw, fun _ z => nomatch z⟩⟩⟩⟩
  refine ⟨PySem.W.fnOf "law" "law" (defArgs s_law) (defBody s_law) (defScope s_law) .none kVLaw dcLaw pmLaw anLaw (.ref cLaw) ctLaw, [(cBe, pBe), (cBo, pBo), (cWi, pWi), (cLaw, pLaw)], spLaw K (nts pBe pBo pWi pLaw), memP tBe tBo tWi tLaw, memP nBe nBo nWi nLaw, memP (PySem.W.codeHd_of_K X qBe) (PySem.W.codeHd_of_K X qBo) (PySem.W.codeHd_of_K X qWi) (PySem.W.codeHd_of_K X qLaw), fun s v => .of_eq rfl, fun H a ns hl _ hH hS => ⟨a, ns, rfl, hS, hl, ?_, fun _ => rfl⟩, fun base KB GB hB => ?_⟩
  · have hBe := hH (cBe, pBe) (by simp)
    have hBo := hH (cBo, pBo) (by simp)
    have hWi := hH (cWi, pWi) (by simp)
    have hLaw := hH (cLaw, pLaw) (by simp)
    exact List.forall_mem_cons.mpr ⟨TabN.nil hBe, List.forall_mem_cons.mpr ⟨TabN.nil hBo, List.forall_mem_cons.mpr ⟨TabN.nil hWi, List.forall_mem_cons.mpr ⟨TabN.nil hLaw, fun _ z => nomatch z⟩⟩⟩⟩
  · have BBe := hB (cBe, pBe) (by simp)
    have BBo := hB (cBo, pBo) (by simp)
    have BWi := hB (cWi, pWi) (by simp)
    have BLaw := hB (cLaw, pLaw) (by simp)
    have T1Be : TxtN2 base mg (nts pBe pBo pWi pLaw) cBe pBe (nm_beside) := ⟨BBe, by simp, List.forall_mem_cons.mpr ⟨fun _ => rfl, List.forall_mem_cons.mpr ⟨fun z => absurd z dBeBo.symm, List.forall_mem_cons.mpr ⟨fun z => absurd z dBeWi.symm, List.forall_mem_cons.mpr ⟨fun z => absurd z dBeLaw.symm, fun _ z => nomatch z⟩⟩⟩⟩⟩
    have T1Bo : TxtN2 base mg (nts pBe pBo pWi pLaw) cBo pBo (fun _ _ => Q_both ++ "<lambda>") := ⟨BBo, by simp, List.forall_mem_cons.mpr ⟨fun z => absurd z dBeBo, List.forall_mem_cons.mpr ⟨fun _ => rfl, List.forall_mem_cons.mpr ⟨fun z => absurd z dBoWi.symm, List.forall_mem_cons.mpr ⟨fun z => absurd z dBoLaw.symm, fun _ z => nomatch z⟩⟩⟩⟩⟩
    have T1Wi : TxtN2 base mg (nts pBe pBo pWi pLaw) cWi pWi (fun _ _ => Q_without ++ "<lambda>") := ⟨BWi, by simp, List.forall_mem_cons.mpr ⟨fun z => absurd z dBeWi, List.forall_mem_cons.mpr ⟨fun z => absurd z dBoWi, List.forall_mem_cons.mpr ⟨fun _ => rfl, List.forall_mem_cons.mpr ⟨fun z => absurd z dWiLaw.symm, fun _ z => nomatch z⟩⟩⟩⟩⟩
    have T1Law : TxtN2 base mg (nts pBe pBo pWi pLaw) cLaw pLaw (fun _ _ => Q_law ++ "<lambda>") := ⟨BLaw, by simp, List.forall_mem_cons.mpr ⟨fun z => absurd z dBeLaw, List.forall_mem_cons.mpr ⟨fun z => absurd z dBoLaw, List.forall_mem_cons.mpr ⟨fun z => absurd z dWiLaw, List.forall_mem_cons.mpr ⟨fun _ => rfl, fun _ z => nomatch z⟩⟩⟩⟩⟩
    have GBe : FnOk l.prog w K mg base (L2.CX l.prog w) 11 fBe _ P_beside (spBeside l.prog w K mg base (nts pBe pBo pWi pLaw) C CT CU) := ok_beside FBe T1Be TMk Eeu ⟨aSt, iSt, kSt⟩ FSt bSt FM bM TM TE FX bX FT bT ⟨cmk, aI, iI, ckc⟩ FI bI FCG bCG FCD bCD FBC bBC
    have GBo : FnOk l.prog w K mg base (L2.CX l.prog w) 12 fBo _ P_both (spBoth K (nts pBe pBo pWi pLaw) C CT CU) := ok_both FBo T1Bo TS (PySem.W.mg_of X G aBe) kBe GBe bBe
    have GWi : FnOk l.prog w K mg base (L2.CX l.prog w) 12 fWi _ P_without (spWithout K (nts pBe pBo pWi pLaw) C CT CU) := ok_without FWi T1Wi TS (PySem.W.mg_of X G aBe) kBe GBe bBe
    have GMa : FnOk l.prog w K mg base CX0 2 fMa _ P__law_machine (spMach K) := ok_mach FMa TMa FMe bMe
    have GSS : FnOk l.prog w K mg base CX0 4 fSS _ P__law_some_shape spSome := ok_some FSS TSom FD bD FP bP GMa bMa FSo bSo FSh bSh
    have GMS : FnOk l.prog w K mg base CX0 6 fMS _ P__law_made_shape (spMkD K C) := FnOk.calm (ok_mkD FMS TS ⟨cmk, aI, iI, ckc⟩ FI bI FCG bCG FCD bCD FBC bBC)
    have GTe : FnOk l.prog w K mg base CX0 14 fTe _ P__law_told (spTell l.prog w K mg base (nts pBe pBo pWi pLaw) C CU CT) := ok_tell FTe TTe
    have GPR : FnOk l.prog w K mg base CX0 3 fPR _ P__law_pair_right (spPR K C) := ok_pr FPR TPr FPa bPa FLn bLn
    have GHD : FnOk l.prog w K mg base CX0 1 fHD _ P__law_has spHasD := ok_hasD FHD
    have GHas : FnOk l.prog w K mg base CX0 2 fHas _ P_Shape_has (spHas K C) := ok_has FHas TSM FSP bSP FSt bSt
    have GI : FnOk l.prog w K mg base (L2.CX l.prog w) 4 fI _ P_Shape___init__ (spInitS K C CB) := ok_initS FI TS FCG bCG FCD bCD FBC bBC
    exact ok_law FLaw T1Law TA FD bD FP bP FPen bPen FLe bLe FCn bCn GSS bSS GMS bMS GTe bTe GPR bPR GHD bHD GBo bBo GWi bWi ⟨aHas, iHas, kHas⟩ GHas bHas ⟨cmk, aI, iI, ckc⟩ GI bI
theorem walkT {l : PySem.W.OpenLaw} {q : Program} {loose : List Str} {XP : (Str → Option Value) → Heap → Prop} {YP : World → Heap → Prop} {d : DefRec} {K : Params → PySem.W.Frag} (hn : l.most = some 63) (hdf : d.params.defaults = [])
    (hY : ∀ (w : World) (h : Heap), YP w h → (K w.params).In h)
    (F : ∀ (w : World) (mg : Str → Option Value) (fa : Addr) (h : Heap), YP w h → (K w.params).In h → h.Ns mainGlobals mg → mg d.name = some (.ref fa) → LawAtS l w (K w.params) (L2.CX l.prog w) 15 63 "_law_script" mg fa h) :
    PySem.W.WalkO q loose XP YP l.row.toRowW d [] (fun f vs => PySem.call f vs) :=
  LamX.walk_ofTs (n := 63) (k := 15) (x := "_law_script") (CX := fun w => L2.CX l.prog w) hn (by decide) hdf ⟨rfl, by decide, by decide⟩ hY F fun _ _ _ _ _ ⟨_, _, _, _, _, _, _, _, _, _, _, _, z⟩ => z
end Vf
open PySem PySem.W PyProof.Rows
set_option maxRecDepth 100000 in
set_option maxHeartbeats 0 in
theorem PySem.Challenge.cw_bestcodes_k42_shapes_put_together_holds : PySem.Challenge.rw_bestcodes_k42_shapes_put_together.Holds := by
  w_on; o_law; k_head; (case hw => w_witness2)
  k_fill
  refine Vf.walkT (l := PySem.Challenge.rw_bestcodes_k42_shapes_put_together) rfl rfl (fun w h Y => PySem.W.km_in_of Y) ?F
  case F =>
    intro w mg fa h Y KX G hmg
    have hT8 := PySem.W.km_tabs_of Y
    refine' Vf.all_at KX G hmg ?aD ?lD ?cD ?kD ?aP ?lP ?cP ?kP ?aPen ?lPen ?cPen ?kPen ?aLe ?lLe ?cLe ?kLe ?aSh ?lSh ?cSh ?kSh ?aMS ?lMS ?cMS ?kMS ?aHD ?lHD ?cHD ?kHD ?aCn ?lCn ?cCn ?kCn ?aMe ?lMe ?cMe ?kMe ?aMa ?lMa ?cMa ?kMa ?aSo ?lSo ?cSo ?kSo ?aSS ?lSS ?cSS ?kSS ?aPa ?lPa ?cPa ?kPa ?aTe ?lTe ?cTe ?kTe ?aPR ?lPR ?cPR ?kPR ?aCG ?lCG ?cCG ?kCG ?aCD ?lCD ?cCD ?kCD ?aSP ?lSP ?cSP ?kSP ?aX ?lX ?cX ?kX ?aM ?lM ?cM ?kM ?aBe ?lBe ?chBe ?kBe ?oBe ?eBe ?qBe ?nBe ?tBe ?aBo ?lBo ?chBo ?kBo ?oBo ?eBo ?qBo ?nBo ?tBo ?aWi ?lWi ?chWi ?kWi ?oWi ?eWi ?qWi ?nWi ?tWi ?aLaw ?lLaw ?chLaw ?kLaw ?oLaw ?eLaw ?qLaw ?nLaw ?tLaw ?aI ?iI ?lI ?cI ?kI ?aLn ?iLn ?lLn ?cLn ?kLn ?aEq ?iEq ?lEq ?cEq ?kEq ?aHas ?iHas ?lHas ?cHas ?kHas ?aSt ?iSt ?lSt ?cSt ?kSt ?aBC ?iBC ?lBC ?cBC ?kBC ?aT ?iT ?lT ?cT ?kT ?dBeBo ?dBeWi ?dBoWi ?dBeLaw ?dBoLaw ?dWiLaw ?z_int ?z_len ?z_list ?z_range ?z_sorted ?z_any ?z_tuple ?z_enumerate ?z_min ?z_set ?z_isinstance ?ebC ?ebL ?ebsa ?ebex ?ebty ?ebkc ?ebtI ?ebnf ?ebga ?ebgg ?ebhd ?ebss ?etC ?etL ?etsa ?etex ?etty ?etkc ?ettI ?etnf ?etga ?etgg ?ethd ?etss ?BC ?Bs0 ?Br ?Bv ?euC ?euq ?eukc ?euex ?euty ?euhd ?euss ?ms ?cC ?cpg ?chd ?cpo ?csa ?cmk ?ckc ?cnL ?cnR ?cnE ?qa ?qn ?qt ?qm ?qy ?qs ?etca ?etmo ?euga ?eugg ?euca ?eumo ?eut ?Bhd ?Bty ?etB ?euB ?netB ?neuB
    (case ebC => k_is)
    (case etC => k_is)
    (case BC => k_is)
    (case euC => first | k_is | kernel_rfl)
    (case cC => first | k_is | kernel_rfl)
    (case aD => k_is)
    (case lD => k_is)
    (case cD => k_is)
    (case kD => k_is)
    (case aP => k_is)
    (case lP => k_is)
    (case cP => k_is)
    (case kP => k_is)
    (case aPen => k_is)
    (case lPen => k_is)
    (case cPen => k_is)
    (case kPen => k_is)
    (case aLe => k_is)
    (case lLe => k_is)
    (case cLe => k_is)
    (case kLe => k_is)
    (case aSh => k_is)
    (case lSh => k_is)
    (case cSh => k_is)
    (case kSh => k_is)
    (case aMS => k_is)
    (case lMS => k_is)
    (case cMS => k_is)
    (case kMS => k_is)
    (case aHD => k_is)
    (case lHD => k_is)
    (case cHD => k_is)
    (case kHD => k_is)
    (case aCn => k_is)
    (case lCn => k_is)
    (case cCn => k_is)
    (case kCn => k_is)
    (case aMe => k_is)
    (case lMe => k_is)
    (case cMe => k_is)
    (case kMe => k_is)
    (case aMa => k_is)
    (case lMa => k_is)
    (case cMa => k_is)
    (case kMa => k_is)
    (case aSo => k_is)
    (case lSo => k_is)
    (case cSo => k_is)
    (case kSo => k_is)
    (case aSS => k_is)
    (case lSS => k_is)
    (case cSS => k_is)
    (case kSS => k_is)
    (case aPa => k_is)
    (case lPa => k_is)
    (case cPa => k_is)
    (case kPa => k_is)
    (case aTe => k_is)
    (case lTe => k_is)
    (case cTe => k_is)
    (case kTe => k_is)
    (case aPR => k_is)
    (case lPR => k_is)
    (case cPR => k_is)
    (case kPR => k_is)
    (case aCG => k_is)
    (case lCG => k_is)
    (case cCG => k_is)
    (case kCG => k_is)
    (case aCD => k_is)
    (case lCD => k_is)
    (case cCD => k_is)
    (case kCD => k_is)
    (case aSP => k_is)
    (case lSP => k_is)
    (case cSP => k_is)
    (case kSP => k_is)
    (case aX => k_is)
    (case lX => k_is)
    (case cX => k_is)
    (case kX => k_is)
    (case aM => k_is)
    (case lM => k_is)
    (case cM => k_is)
    (case kM => k_is)
    (case aBe => k_is)
    (case lBe => k_is)
    (case chBe => k_is)
    (case kBe => k_is)
    (case oBe => k_is)
    (case eBe => rfl)
    (case qBe => kernel_rfl)
    (case nBe => kernel_rfl)
    (case tBe => exact hT8 _ (by decide))
    (case aBo => k_is)
    (case lBo => k_is)
    (case chBo => k_is)
    (case kBo => k_is)
    (case oBo => k_is)
    (case eBo => rfl)
    (case qBo => kernel_rfl)
    (case nBo => kernel_rfl)
    (case tBo => exact hT8 _ (by decide))
    (case aWi => k_is)
    (case lWi => k_is)
    (case chWi => k_is)
    (case kWi => k_is)
    (case oWi => k_is)
    (case eWi => rfl)
    (case qWi => kernel_rfl)
    (case nWi => kernel_rfl)
    (case tWi => exact hT8 _ (by decide))
    (case aLaw => k_is)
    (case lLaw => k_is)
    (case chLaw => k_is)
    (case kLaw => k_is)
    (case oLaw => k_is)
    (case eLaw => rfl)
    (case qLaw => kernel_rfl)
    (case nLaw => kernel_rfl)
    (case tLaw => exact hT8 _ (by decide))
    (case aI => k_is)
    (case iI => k_is)
    (case lI => k_is)
    (case cI => k_is)
    (case kI => k_is)
    (case aLn => k_is)
    (case iLn => k_is)
    (case lLn => k_is)
    (case cLn => k_is)
    (case kLn => k_is)
    (case aEq => k_is)
    (case iEq => k_is)
    (case lEq => k_is)
    (case cEq => k_is)
    (case kEq => k_is)
    (case aHas => k_is)
    (case iHas => k_is)
    (case lHas => k_is)
    (case cHas => k_is)
    (case kHas => k_is)
    (case aSt => k_is)
    (case iSt => k_is)
    (case lSt => k_is)
    (case cSt => k_is)
    (case kSt => k_is)
    (case aBC => k_is)
    (case iBC => k_is)
    (case lBC => k_is)
    (case cBC => k_is)
    (case kBC => k_is)
    (case aT => k_is)
    (case iT => k_is)
    (case lT => k_is)
    (case cT => k_is)
    (case kT => k_is)
    (case dBeBo => decide)
    (case dBeWi => decide)
    (case dBoWi => decide)
    (case dBeLaw => decide)
    (case dBoLaw => decide)
    (case dWiLaw => decide)
    (case z_int => k_is)
    (case z_len => k_is)
    (case z_list => k_is)
    (case z_range => k_is)
    (case z_sorted => k_is)
    (case z_any => k_is)
    (case z_tuple => k_is)
    (case z_enumerate => k_is)
    (case z_min => k_is)
    (case z_set => k_is)
    (case z_isinstance => k_is)
    (case ebL => k_is)
    (case ebsa => k_is)
    (case ebex => k_is)
    (case ebty => k_is)
    (case ebkc => k_is)
    (case ebtI => k_is)
    (case ebnf => k_is)
    (case ebga => k_is)
    (case ebgg => k_is)
    (case ebhd => k_is)
    (case ebss => k_is)
    (case etL => k_is)
    (case etsa => k_is)
    (case etex => k_is)
    (case etty => k_is)
    (case etkc => k_is)
    (case ettI => k_is)
    (case etnf => k_is)
    (case etga => k_is)
    (case etgg => k_is)
    (case ethd => k_is)
    (case etss => k_is)
    (case Bs0 => k_is)
    (case Br => k_is)
    (case Bv => k_is)
    (case euq => first | k_is | kernel_rfl)
    (case eukc => first | k_is | kernel_rfl)
    (case euex => first | k_is | kernel_rfl)
    (case euty => first | k_is | kernel_rfl)
    (case euhd => first | k_is | kernel_rfl)
    (case euss => first | k_is | kernel_rfl)
    (case ms => exact ⟨_, PySem.W.mg_of KX G (by k_is)⟩)
    (case cpg => first | k_is | kernel_rfl)
    (case chd => first | k_is | kernel_rfl)
    (case cpo => first | k_is | kernel_rfl)
    (case csa => first | k_is | kernel_rfl)
    (case cmk => first | k_is | kernel_rfl)
    (case ckc => first | k_is | kernel_rfl)
    (case cnL => first | k_is | kernel_rfl)
    (case cnR => first | k_is | kernel_rfl)
    (case cnE => first | k_is | kernel_rfl)
    (case qa => first | k_is | kernel_rfl)
    (case qn => first | k_is | kernel_rfl)
    (case qt => first | k_is | kernel_rfl)
    (case qm => first | k_is | kernel_rfl)
    (case qy => first | k_is | kernel_rfl)
    (case qs => first | k_is | kernel_rfl)
    (case etca => first | k_is | kernel_rfl)
    (case etmo => first | k_is | kernel_rfl)
    (case euga => first | k_is | kernel_rfl)
    (case eugg => first | k_is | kernel_rfl)
    (case euca => first | k_is | kernel_rfl)
    (case eumo => first | k_is | kernel_rfl)
    (case eut => first | k_is | kernel_rfl)
    (case Bhd => first | k_is | kernel_rfl)
    (case Bty => first | k_is | kernel_rfl)
    (case etB => first | k_is | kernel_rfl)
    (case euB => first | k_is | kernel_rfl)
    (case netB => decide)
    (case neuB => decide)
#print axioms PySem.Challenge.cw_bestcodes_k42_shapes_put_together_holds
