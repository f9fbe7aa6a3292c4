import PyProof.Rows.All
import Wide.All
import OpenK.AllK
import Wide.FinOn
import HandS.ForMost
import HandS.Wide
import HandS.ExcInit
import HandS.ExcField
import HandS.WordsExc
import HandS.Style
import KE.GoesEnum
import HandS.Walk
import PyProof.EnumMake
import KE.GoesMore
import HandS.ExcOwn
import HandS.Exc
import HandS.Replace
import HandS.NestedK
import KE.KDictDisplayH
import KE.GoesZip
import HandS.Call
import HandS.List
import HandS.Deep
import HandS.OwnEq
import HandS.NamedTupGet
import HandS.SlotsOwn
import HandS.TryMany
import HandS.ExcIs
import KE.KNestM
import HandS.EndTab
import PySem.Challenge.RW_bestcodes_k07_codes_put_together
set_option Elab.async false
set_option linter.all false
set_option maxRecDepth 100000
set_option maxHeartbeats 4000000
/-! the pen -/
namespace Vf
open PySem L2 PyProof.Rows
theorem nCA : ¬ (("cells" : Str) = "at") := by decide +kernel
theorem nCL : ¬ (("cells" : Str) = "left") := by decide +kernel
theorem nAL : ¬ (("at" : Str) = "left") := by decide +kernel
theorem nAC : ¬ (("at" : Str) = "cells") := by decide +kernel
theorem nLC : ¬ (("left" : Str) = "cells") := by decide +kernel
theorem nLA : ¬ (("left" : Str) = "at") := by decide +kernel
def penKV (c : Addr) (a l : Int) : List (Key × V) := [(Sum.inr "cells", .ref c), (Sum.inr "at", .int a), (Sum.inr "left", .int l)]
theorem pen_cells (c : Addr) (a l : Int) : valV (penKV c a l) (Sum.inr "cells") = some (.ref c) := by
  simp [valV, penKV]
theorem pen_at (c : Addr) (a l : Int) : valV (penKV c a l) (Sum.inr "at") = some (.int a) := by
  simp [valV, penKV, nCA]
theorem pen_left (c : Addr) (a l : Int) : valV (penKV c a l) (Sum.inr "left") = some (.int l) := by
  simp [valV, penKV, nCL, nAL]
theorem pen_putAt (c : Addr) (a l b : Int) : putK (penKV c a l) (Sum.inr "at") (.int b) = penKV c b l := by
  simp [putK, penKV, nCA, nLA]
theorem pen_putLeft (c : Addr) (a l b : Int) : putK (penKV c a l) (Sum.inr "left") (.int b) = penKV c a b := by
  simp [putK, penKV, nCL, nAL]
theorem pen_merge (c : Addr) (a l : Int) : mergeK [] (penKV c a l) = penKV c a l := by
  simp [mergeK, penKV, putK, nCA, nCL, nAL]
/-- what a call may leave of the heap: all but the pen at p -/
def Kp (p : Addr) (H H' : Hp) : Prop := ∀ b o, H b = some o → b ≠ p → H' b = some o
theorem Kp.refl (p : Addr) (H : Hp) : Kp p H H := fun _ _ h _ => h
theorem Kp.trans {p : Addr} {H H1 H2 : Hp} (a : Kp p H H1) (b : Kp p H1 H2) : Kp p H H2 := fun c o h n => b c o (a c o h n) n
theorem Kp.of {p : Addr} {H H1 : Hp} (s : Same H H1) : Kp p H H1 := fun b o h _ => s b o h
/-- the pen: a dict of the script's cells, the place, what is left -/
def PenO (H : Hp) (p c : Addr) (a l : Int) (cs : List Int) : Prop := H p = some (.dK (penKV c a l)) ∧ H c = some (.lst (cs.map V.int)) ∧ cs.length ≤ 63 ∧ 0 ≤ a ∧ 0 ≤ l
def Pen (H : Hp) (p c : Addr) (n : Nat) : Prop := ∃ a l cs, PenO H p c a l cs ∧ a ≤ n
theorem PenO.ne {H : Hp} {p c : Addr} {a l : Int} {cs : List Int} (P : PenO H p c a l cs) : c ≠ p := ne_of P.2.1 P.1 (by intro z; cases z)
theorem Pen.mono {H : Hp} {p c : Addr} {n m : Nat} (P : Pen H p c n) (h : n ≤ m) : Pen H p c m := by
  obtain ⟨a, l, cs, q, r⟩ := P
  exact ⟨a, l, cs, q, by omega⟩
theorem Pen.same {H H' : Hp} {p c : Addr} {n : Nat} (P : Pen H p c n) (s : Same H H') : Pen H' p c n := by
  obtain ⟨a, l, cs, ⟨q1, q2, q3⟩, r⟩ := P
  exact ⟨a, l, cs, ⟨s _ _ q1, s _ _ q2, q3⟩, r⟩
theorem Pen.dk {H : Hp} {p c : Addr} {n : Nat} (P : Pen H p c n) : ∃ kvs, H p = some (.dK kvs) := by
  obtain ⟨a, l, cs, ⟨q1, _⟩, _⟩ := P
  exact ⟨_, q1⟩
/-- another object is written -/
theorem Pen.put {H : Hp} {p c r : Addr} {n : Nat} {o : HO} (P : Pen H p c n) (h1 : r ≠ p) (h2 : r ≠ c) : Pen (upd H r o) p c n := by
  obtain ⟨a, l, cs, ⟨q1, q2, q3⟩, z⟩ := P
  exact ⟨a, l, cs, ⟨by rw [upd_ne h1.symm]; exact q1, by rw [upd_ne h2.symm]; exact q2, q3⟩, z⟩
theorem Pen.new {H : Hp} {p c r : Addr} {n : Nat} (P : Pen H p c n) (h : H r = none) : r ≠ p ∧ r ≠ c := by
  obtain ⟨a, l, cs, ⟨q1, q2, q3⟩, z⟩ := P
  exact ⟨(ne_of_none q1 h).symm, (ne_of_none q2 h).symm⟩
theorem Kp.free {p c l : Addr} {n : Nat} {H H' : Hp} (k : Kp p H H') (P : Pen H' p c n) (h : H' l = none) : H l = none := by
  cases e : H l with
  | none => rfl
  | some o =>
    have := k l o e (P.new h).1
    rw [h] at this; cases this
theorem Kp.put {p r : Addr} {H H' : Hp} {o : HO} (k : Kp p H H') (h : H r = none) : Kp p H (upd H' r o) := fun b u e n => by
  rw [upd_ne (ne_of_none e h)]
  exact k b u e n
/-- a new object beside -/
theorem same_new {H : Hp} {a : Addr} {o : HO} (h : H a = none) : Same H (upd H a o) := fun b u e => by
  rw [upd_ne (ne_of_none e h)]
  exact e
theorem Same.upd {H H' : Hp} {a : Addr} {o : HO} (s : Same H H') (h : H a = none) : Same H (upd H' a o) := fun b u e => by
  rw [upd_ne (ne_of_none e h)]
  exact s b u e
theorem kp_upd {H : Hp} {p : Addr} {o : HO} : Kp p H (L2.upd H p o) := fun b u e n => by
  rw [upd_ne n]
  exact e
theorem dget_left {H : Hp} {p c : Addr} {a l : Int} (h : H p = some (.dK (penKV c a l))) : DGet H p (.str "left") (some (.int l)) := by
  have := DGet.k (k := Sum.inr "left") h
  rw [pen_left] at this
  exact this
theorem dget_at {H : Hp} {p c : Addr} {a l : Int} (h : H p = some (.dK (penKV c a l))) : DGet H p (.str "at") (some (.int a)) := by
  have := DGet.k (k := Sum.inr "at") h
  rw [pen_at] at this
  exact this
theorem dget_cells {H : Hp} {p c : Addr} {a l : Int} (h : H p = some (.dK (penKV c a l))) : DGet H p (.str "cells") (some (.ref c)) := by
  have := DGet.k (k := Sum.inr "cells") h
  rw [pen_cells] at this
  exact this
theorem dput_left {H : Hp} {p c : Addr} {a l b : Int} (h : H p = some (.dK (penKV c a l))) : DPut H p (.str "left") (.int b) (L2.upd H p (.dK (penKV c a b))) := by
  have := DPut.k (k := Sum.inr "left") (v := .int b) h (by show 3 < sizeLine; decide)
  rw [pen_putLeft] at this
  exact this
theorem dput_at {H : Hp} {p c : Addr} {a l b : Int} (h : H p = some (.dK (penKV c a l))) : DPut H p (.str "at") (.int b) (L2.upd H p (.dK (penKV c b l))) := by
  have := DPut.k (k := Sum.inr "at") (v := .int b) h (by show 3 < sizeLine; decide)
  rw [pen_putAt] at this
  exact this
theorem dp_ints (K : PySem.W.Frag) {H : Hp} {c : Addr} {cs : List Int} (h : H c = some (.lst (cs.map V.int))) : Dp K H (.ref c) (.list (cs.map PyData.int)) := by
  refine .lst (SqL.of h) ?_
  clear h
  induction cs with
  | nil => exact .nil
  | cons x r ih => exact .cons (.int x) ih
theorem eqv_ints_nil (cs : List Int) : PyData.eqv (.list (cs.map PyData.int)) (.list []) = cs.isEmpty := by
  cases cs with
  | nil => simp [PyData.eqv, PyData.eqvAll]
  | cons x r => simp [PyData.eqv, PyData.eqvAll]
theorem shaped_nil : SeqAt.shaped (.list []) = true := PySem.W.shaped_ints []
theorem fmod_bounds {x m : Int} (h : 0 < m) : 0 ≤ x.fmod m ∧ x.fmod m < m := by
  rw [Int.fmod_eq_emod_of_nonneg x (Int.le_of_lt h)]
  exact ⟨Int.emod_nonneg _ (by omega), Int.emod_lt_of_pos _ h⟩
theorem log_lt {m : Int} (h0 : 0 < m) (h : m < 2 ^ 200) : m.natAbs.log2 < 9000 := by
  have : m.natAbs < 2 ^ 200 := by omega
  exact Nat.lt_of_lt_of_le (PySem.Flt.log2_lt_of (by decide) this) (by decide)
end Vf
set_option Elab.async false
set_option linter.all false
set_option maxRecDepth 100000
set_option maxHeartbeats 4000000
/-! texts of one sign, letters -/
namespace Vf
open PySem L2 PyProof.Rows
/-- a text of one sign -/
def sg (c : Nat) : Str := ⟨#[c]⟩
theorem sg_tl (c : Nat) : TL.tl (sg c) = [c] := rfl
theorem sg_inj {c d : Nat} (h : sg c = sg d) : c = d := by
  have : TL.tl (sg c) = TL.tl (sg d) := by rw [h]
  rw [sg_tl, sg_tl] at this
  exact List.cons.inj this |>.1
theorem joinL_sg : ∀ cs : List Nat, TL.joinL [] ((cs.map sg).map TL.tl) = cs
  | [] => rfl
  | [c] => rfl
  | c :: d :: r => by
    have ih := joinL_sg (d :: r)
    show [c] ++ ([] ++ TL.joinL [] (((d :: r).map sg).map TL.tl)) = c :: d :: r
    rw [ih]; rfl
theorem join_sg (cs : List Nat) : TL.tl (Txt.join Str.empty (cs.map sg)) = cs := by
  rw [TL.join_eq, TL.tl_join]
  exact joinL_sg cs
theorem sum_sg (cs : List Nat) : ((cs.map sg).map (·.length)).sum = cs.length := by
  induction cs with
  | nil => rfl
  | cons c r ih =>
    simp only [List.map_cons, List.sum_cons, ih, List.length_cons]
    show 1 + r.length = r.length + 1
    omega
/-- what is a permutation of texts of one sign, is such -/
theorem perm_sg : ∀ {ys : List Str} {cs : List Nat}, ys.Perm (cs.map sg) → ∃ ds : List Nat, ys = ds.map sg ∧ ds.Perm cs := by
  intro ys cs h
  have hall : ∀ y ∈ ys, ∃ c, y = sg c := fun y hy => by
    obtain ⟨c, _, e⟩ := List.mem_map.mp (h.mem_iff.mp hy)
    exact ⟨c, e.symm⟩
  have : ∃ ds : List Nat, ys = ds.map sg := by
    clear h
    induction ys with
    | nil => exact ⟨[], rfl⟩
    | cons y r ih =>
      obtain ⟨c, e⟩ := hall y (List.mem_cons_self ..)
      obtain ⟨ds, e2⟩ := ih fun z hz => hall z (List.mem_cons_of_mem _ hz)
      exact ⟨c :: ds, by rw [e, e2]; rfl⟩
  obtain ⟨ds, e⟩ := this
  refine ⟨ds, e, ?_⟩
  rw [e] at h
  have g : ∀ l : List Nat, (l.map sg).map (fun s => s.cps.toList.headD 0) = l := fun l => by
    rw [List.map_map]
    exact List.map_id'' (fun c => rfl) l
  have := h.map (fun s : Str => s.cps.toList.headD 0)
  rw [g, g] at this
  exact this
theorem rising_sg : ∀ (cs : List Nat) (p : Nat), PyProof.Rows.risingS (sg p) (cs.map sg) = true → (p :: cs).Pairwise (· ≤ ·)
  | [], p, _ => List.pairwise_singleton _ _
  | c :: r, p, h => by
    have h' : (!PySem.Spec.ltCps (sg c).cps.toList (sg p).cps.toList && PyProof.Rows.risingS (sg c) (r.map sg)) = true := h
    rw [Bool.and_eq_true] at h'
    have ih := rising_sg r c h'.2
    have hpc : p ≤ c := by
      have h1 := h'.1
      have e : PySem.Spec.ltCps (sg c).cps.toList (sg p).cps.toList = PySem.Spec.ltCps [c] [p] := rfl
      rw [e] at h1
      by_cases q : c < p
      · exfalso
        simp [PySem.Spec.ltCps, q] at h1
      · omega
    refine List.pairwise_cons.mpr ⟨fun d hd => ?_, ih⟩
    rcases List.mem_cons.mp hd with e | hd
    · omega
    · have := (List.pairwise_cons.mp ih).1 d hd
      omega
theorem sorted_sg {cs : List Nat} (h : PyProof.Rows.sortedS (cs.map sg) = true) : cs.Pairwise (· ≤ ·) := by
  cases cs with
  | nil => exact List.Pairwise.nil
  | cons c r => exact rising_sg r c h
/-- letters: ascending, from a to z -/
def Ltr (z : Str) (m : Nat) : Prop := z.length = m ∧ (TL.tl z).Pairwise (· < ·) ∧ ∀ c ∈ TL.tl z, 97 ≤ c ∧ c ≤ 122
def alpha : List Nat := TL.tl (Str.ofString "abcdefghijklmnopqrstuvwxyz")
theorem alpha_nodup : alpha.Nodup := by decide +kernel
theorem alpha_all : ∀ c ∈ alpha, 97 ≤ c ∧ c ≤ 122 := by decide +kernel
theorem alpha_len : alpha.length = 26 := by decide +kernel
theorem ltr_of {fs ds L : List Nat} (hp : (fs ++ L).Perm alpha) (hd : ds.Perm fs) (hs : ds.Pairwise (· ≤ ·)) : ds.Pairwise (· < ·) ∧ ∀ c ∈ ds, 97 ≤ c ∧ c ≤ 122 := by
  have nd : (fs ++ L).Nodup := hp.nodup_iff.mpr alpha_nodup
  have ndf : ds.Nodup := hd.nodup_iff.mpr (List.nodup_append.mp nd).1
  refine ⟨?_, fun c hc => alpha_all c (hp.mem_iff.mp (List.mem_append_left _ (hd.mem_iff.mp hc)))⟩
  have : ds.Pairwise (fun a b => a ≤ b ∧ a ≠ b) := List.Pairwise.and hs ndf
  exact this.imp fun ⟨h1, h2⟩ => by omega
theorem cutS_tl (z : Str) (lo hi : Option Int) : TL.tl (cutS z lo hi) = ((TL.tl z).drop (HT.sIx z.length 0 lo)).take (HT.sIx z.length z.length hi - HT.sIx z.length 0 lo) := by
  unfold cutS TL.tl
  simp
theorem cut_to {z : Str} {j : Nat} (h : j ≤ z.length) : TL.tl (cutS z none (some (j : Int))) = (TL.tl z).take j := by
  rw [cutS_tl, HT.sIx_none, HT.sIx_nat, List.drop_zero, Nat.min_eq_left h, Nat.sub_zero]
theorem cut_from {z : Str} {j : Nat} (h : j ≤ z.length) : TL.tl (cutS z (some (j : Int)) none) = (TL.tl z).drop j := by
  rw [cutS_tl, HT.sIx_none, HT.sIx_nat, Nat.min_eq_left h]
  exact List.take_of_length_le (by rw [List.length_drop, TL.len_tl]; omega)
theorem kp_seq {K : PySem.W.Frag} {p a : Addr} {H H' : Hp} {kvs : List (Key × V)} {xs : List V} (k : Kp p H H') (hp : H p = some (.dK kvs)) (h : SqL K H a xs) : SqL K H' a xs := by
  rcases h with (h | ⟨o, h⟩) | h
  · exact .inl (.inl (k _ _ h (ne_of h hp (by intro z; cases z))))
  · exact .inl (.inr ⟨o, k _ _ h (ne_of h hp (by intro z; cases z))⟩)
  · exact .inr h
theorem kp_seqT {K : PySem.W.Frag} {p a : Addr} {H H' : Hp} {kvs : List (Key × V)} {xs : List V} (k : Kp p H H') (hp : H p = some (.dK kvs)) (h : SqT K H a xs) : SqT K H' a xs := by
  rcases h with (h | ⟨o, h⟩) | h
  · exact .inl (.inl (k _ _ h (ne_of h hp (by intro z; cases z))))
  · exact .inl (.inr ⟨o, k _ _ h (ne_of h hp (by intro z; cases z))⟩)
  · exact .inr h
theorem at_of' {α : Type} {xs : List α} {z : Int} {j : Nat} {v : α} (e : z = (j : Int)) (h : xs[j]? = some v) : atI xs z = some v := by
  rw [e]
  exact atI_nat h
end Vf
set_option Elab.async false
set_option linter.all false
set_option maxRecDepth 100000
set_option maxHeartbeats 4000000
namespace Vf
open PySem L2 PyProof.Rows
def top (i : Nat) : Stmt := PySem.Challenge.pw_bestcodes_k07_codes_put_together.main.body.getD i (.Pass ⟨0, 0, 0, 0⟩)
structure TxtA (K : PySem.W.Frag) (mg : Str → Option Value) : Prop where
  int : mg "int" = none
  len : mg "len" = none
  list : mg "list" = none
  range : mg "range" = none
  sorted : mg "sorted" = none
def spPen (K : PySem.W.Frag) : Sp := fun vs H Q _ => ∃ (s : Addr) (ns : List Int), vs = [.ref s] ∧ SqL K H s (ns.map V.int) ∧ ns.length ≤ 63 ∧
  ∀ (p c : Addr) (H' : Hp), H p = none → H c = none → Pen H' p c 0 → Same H H' → Q (.ref p) H'
def spDraw : Sp := fun vs H Q _ => ∃ (p c : Addr) (m : Int) (n : Nat), vs = [.ref p, .int m] ∧ Pen H p c n ∧ n ≤ 2 ^ 30 ∧ 0 < m ∧ m < 2 ^ 200 ∧
  ∀ (d : Int) (H' : Hp), 0 ≤ d → d < m → Pen H' p c (n + 1) → Kp p H H' → Q (.int d) H'
/-- a pick out of a list; out of a text -/
def spPickL (K : PySem.W.Frag) : Sp := fun vs H Q _ => ∃ (p c a : Addr) (xs : List V) (n : Nat), vs = [.ref p, .ref a] ∧ Pen H p c n ∧ n ≤ 2 ^ 30 ∧ SqL K H a xs ∧ 0 < xs.length ∧ xs.length ≤ 1000 ∧
  ∀ (j : Nat) (v : V) (H' : Hp), xs[j]? = some v → Pen H' p c (n + 1) → Kp p H H' → Q v H'
def spPickS : Sp := fun vs H Q _ => ∃ (p c : Addr) (z : Str) (n : Nat), vs = [.ref p, .str z] ∧ Pen H p c n ∧ n ≤ 2 ^ 30 ∧ 0 < z.length ∧ z.length ≤ 1000 ∧
  ∀ (j x : Nat) (H' : Hp), (TL.tl z)[j]? = some x → Pen H' p c (n + 1) → Kp p H H' → Q (.str (sg x)) H'
def spLetters : Sp := fun vs H Q _ => ∃ (p c : Addr) (m : Nat) (n : Nat), vs = [.ref p, .int m] ∧ Pen H p c n ∧ n ≤ 2 ^ 29 ∧ m ≤ 26 ∧
  ∀ (z : Str) (H' : Hp), Ltr z m → Pen H' p c (n + m) → Kp p H H' → Q (.str z) H'
def spBits : Sp := fun vs H Q _ => ∃ (p c : Addr) (n : Nat), vs = [.ref p] ∧ Pen H p c n ∧ n ≤ 2 ^ 29 ∧
  ∀ (d : Int) (H' : Hp), 0 ≤ d → d < 100 → Pen H' p c (n + 3) → Kp p H H' → Q (.int d) H'
section
variable {P : Program} {w : World} {K : PySem.W.Frag} {mg : Str → Option Value} {base : Heap}
abbrev s__law_pen : Stmt := top 28
abbrev N__law_pen : List Str := ["_law_script"]
abbrev P__law_pen : List Str := ["_law_script"]
theorem sc__law_pen : FnScope N__law_pen P__law_pen (defScope s__law_pen) := ⟨rfl, rfl, rfl, by decide +kernel, rfl, by decide +kernel, by decide +kernel⟩

theorem ok_pen {f : Addr} {fd : FuncData} (F : Fun K "_law_pen" "_law_pen" s__law_pen f fd) (T : TxtA K mg) : FnOk P w K mg base CX0 1 f fd P__law_pen (spPen K) := by
  refine F.ok sc__law_pen (fun vs H Q E h => ?_) (fun cdv A outer s H vs Q E hr h => ?_)
  · obtain ⟨s, ns, rfl, _⟩ := h
    rfl
  · obtain ⟨s, ns, rfl, hS, hl, k⟩ := h
    refine ⟨_, (pss_one (ps_ret (pe_disp (pps_cons pe_str (pe_callTy call_list_of (by rfl) T.list boot_list (pa_cons (pe_slice sl_list (pv 0) po_none (po_some pe_int)) pa_nil)) (pps_cons pe_str pe_int (pps_cons pe_str pe_int pps_nil))) (by rfl) (by rfl) (fun z => by cases z) (by decide)))), ?_⟩
    intro p hp
    have s1 : Same H (L2.upd H p (.dK [])) := same_new hp
    refine ⟨_, rfl, _, rfl, s, _, rfl, s1.seq hS, fun q hq => ?_⟩
    have nqp : q ≠ p := (ne_of_none (upd_same (H := H) (a := p)) hq).symm
    refine ⟨q, _, rfl, Or.inl (SqL.of upd_same), fun c hc => ?_⟩
    have ncp : c ≠ p := fun e => by rw [e, upd_ne nqp.symm, upd_same] at hc; cases hc
    have ncq : c ≠ q := fun e => by rw [e, upd_same] at hc; cases hc
    refine ⟨(by rw [upd_ne ncp.symm, upd_ne nqp.symm, upd_same]), penKV c 0 0, rfl, (by show 3 ≤ 15; decide), ?_⟩
    rw [pen_merge]
    have hcn : H c = none := s1.free ((same_new hq).free hc)
    have hqn : H q = none := s1.free hq
    have ec : cutV (ns.map V.int) none (some 63) = (ns.take 63).map V.int := by
      rw [List.take_of_length_le hl]
      unfold cutV
      simp [HT.sIx]
      exact List.take_of_length_le (by rw [List.length_map]; omega)
    refine k p c _ hp hcn ⟨0, 0, ns.take 63, ⟨upd_same, ?_, ?_, by decide, by decide⟩, by decide⟩ ?_
    · rw [upd_ne ncp, upd_same, ec]
    · rw [List.length_take]; omega
    · intro b o e
      rw [upd_ne (ne_of_none e hp), upd_ne (ne_of_none e hcn), upd_ne (ne_of_none e hqn), upd_ne (ne_of_none e hp)]
      exact e
abbrev s__law_draw : Stmt := top 29
abbrev N__law_draw : List Str := ["_law_pen_here", "_law_many", "_law_digit", "_law_at", "_law_cell", "_law_mixed"]
abbrev P__law_draw : List Str := ["_law_pen_here", "_law_many"]
theorem sc__law_draw : FnScope N__law_draw P__law_draw (defScope s__law_draw) := ⟨rfl, rfl, rfl, by decide +kernel, rfl, by decide +kernel, by decide +kernel⟩

theorem ok_draw {f : Addr} {fd : FuncData} (F : Fun K "_law_draw" "_law_draw" s__law_draw f fd) (T : TxtA K mg) : FnOk P w K mg base CX0 1 f fd P__law_draw spDraw := by
  refine F.ok sc__law_draw (fun vs H Q E h => ?_) (fun cdv A outer s H vs Q E hr h => ?_)
  · obtain ⟨p, c, m, n, rfl, _⟩ := h
    rfl
  · obtain ⟨p, c, m, n, rfl, ⟨a, l, cs, ⟨h1, h2, h3, h4, h5⟩, h6⟩, hn, m0, m1, k⟩ := h
    have hu := hu_of hr
    have ncp : c ≠ p := ne_of h2 h1 (by intro z; cases z)
    refine ⟨_, (pss_cons (ps_if (pt_cmpR op_ge (pe_dget hu (pv 0) pe_str (fun _ _ => rfl)) (pv 1) (nomark _)) (pss_cons (ps_set (i := 2) sc__law_draw.nd rfl (Or.inl rfl) (pe_op op_modN (pe_callTy call_int1 (by rfl) T.int boot_int (pa_cons (pe_dget hu (pv 0) pe_str (fun _ _ => rfl)) pa_nil)) (pv 1)))
      (pss_cons (ps_dput hu (pv 0) pe_str (pe_op op_fdivW (pe_dget hu (pv 0) pe_str (fun _ _ => rfl)) (pv 1)) rfl)
      (pss_one (ps_ret (pv 2))))) pss_nil)
      (pss_cons (ps_set (i := 3) sc__law_draw.nd rfl (Or.inl rfl) (pe_dget hu (pv 0) pe_str (fun _ _ => rfl)))
      (pss_cons (ps_dput hu (pv 0) pe_str (pe_op op_add (pv 3) pe_int) rfl)
      (pss_cons (ps_set (i := 4) sc__law_draw.nd rfl (Or.inl rfl) (pe_op op_add (pe_op op_mul pe_int (pv 3)) pe_int))
      (pss_cons (ps_if (pt_cmpR (op_neD hr.units) (pe_dget hu (pv 0) pe_str (fun _ _ => rfl)) (pe_lst pa_nil) (nomark _)) (pss_one (ps_set (i := 4) sc__law_draw.nd rfl (Or.inl rfl) (pe_ix ix_list (pe_dget hu (pv 0) pe_str (fun _ _ => rfl)) (pe_op op_modN (pe_callTy call_int1 (by rfl) T.int boot_int (pa_cons (pv 3) pa_nil)) (pe_callB call_len (by rfl) T.len PySem.boot_len (pa_cons (pe_dget hu (pv 0) pe_str (fun _ _ => rfl)) pa_nil))) (fun _ _ => rfl)))) pss_nil)
      (pss_cons (ps_if (PW.pt (pw_and (pt_cmpR op_lt (pv 3) (pe_callB call_len (by rfl) T.len PySem.boot_len (pa_cons (pe_dget hu (pv 0) pe_str (fun _ _ => rfl)) pa_nil)) (nomark _)) (pw_and1 (pt_cmpR op_ge (pv 4) (pe_op op_pow pe_int pe_int) (nomark _))))) (pss_cons (ps_dput hu (pv 0) pe_str (pe_op op_fdivW (pe_op op_sub (pv 4) (pe_op op_pow pe_int pe_int)) (pv 1)) rfl)
      (pss_one (ps_ret (pe_op op_modN (pe_callTy call_int1 (by rfl) T.int boot_int (pa_cons (pe_op op_sub (pv 4) (pe_op op_pow pe_int pe_int)) pa_nil)) (pv 1))))) pss_nil)
      (pss_cons (ps_set (i := 5) sc__law_draw.nd rfl (Or.inl rfl) (pe_op op_add (pe_op op_add (pe_op op_add (pe_op op_mul (pe_op op_modN (pe_callTy call_int1 (by rfl) T.int boot_int (pa_cons (pv 4) pa_nil)) pe_int) pe_int) (pe_op op_mul (pe_op op_mul pe_int (pv 3)) (pv 3))) (pe_op op_mul pe_int (pv 3))) pe_int))
      (pss_cons (ps_set (i := 5) sc__law_draw.nd rfl (Or.inl rfl) (pe_op op_modN (pe_callTy call_int1 (by rfl) T.int boot_int (pa_cons (pv 5) pa_nil)) pe_int))
      (pss_cons (ps_set (i := 5) sc__law_draw.nd rfl (Or.inl rfl) (pe_op op_modN (pe_callTy call_int1 (by rfl) T.int boot_int (pa_cons (pe_op op_mul (pv 5) (pe_op op_add (pv 5) pe_int)) pa_nil)) pe_int))
      (pss_one (ps_ret (pe_op op_modN (pe_callTy call_int1 (by rfl) T.int boot_int (pa_cons (pe_op op_fdivN (pe_op op_modN (pe_callTy call_int1 (by rfl) T.int boot_int (pa_cons (pe_op op_mul (pv 5) (pv 5)) pa_nil)) pe_int) pe_int) pa_nil)) (pv 1))))))))))))), ?_⟩
    -- if pen['left'] >= many
    refine ⟨_, rfl, p, _, rfl, dget_left h1, _, rfl, _, _, rfl, rfl, _, rfl, ite2 (fun c1 => ?_) (fun c1 => ?_)⟩
    · have c1 : m ≤ l := by simpa using c1
      refine ⟨_, rfl, p, _, rfl, dget_left h1, Or.inl ⟨_, rfl, _, rfl, _, _, rfl, rfl, (by omega), ?_⟩⟩
      refine ⟨_, rfl, p, _, rfl, dget_left h1, _, rfl, _, _, rfl, rfl, ⟨m0, log_lt m0 m1⟩, _, rfl, p, _, rfl, dput_left h1, ?_⟩
      refine ⟨_, rfl, k _ _ (fmod_bounds m0).1 (fmod_bounds m0).2 ⟨a, l / m, cs, ⟨upd_same, by rw [upd_ne ncp]; exact h2, h3, h4, Int.ediv_nonneg h5 (by omega)⟩, by omega⟩ kp_upd⟩
    · -- at; pen['at'] = at + 1; cell = 41 * at + 23
      refine ⟨_, rfl, p, _, rfl, dget_at h1, ?_⟩
      refine ⟨_, rfl, _, _, rfl, rfl, _, rfl, p, _, rfl, dput_at h1, ?_⟩
      have g1 : (L2.upd H p (.dK (penKV c (a + 1) l))) p = some (.dK (penKV c (a + 1) l)) := upd_same
      have g2 : (L2.upd H p (.dK (penKV c (a + 1) l))) c = some (.lst (cs.map V.int)) := by rw [upd_ne ncp]; exact h2
      have gk : Kp p H (L2.upd H p (.dK (penKV c (a + 1) l))) := kp_upd
      revert g1 g2 gk
      generalize L2.upd H p (.dK (penKV c (a + 1) l)) = H1
      intro g1 g2 gk
      refine ⟨_, rfl, _, _, rfl, rfl, Or.inl ⟨by decide, by decide⟩, _, _, rfl, rfl, ?_⟩
      -- the cell
      refine ⟨_, rfl, p, _, rfl, dget_cells g1, (by show 0 ≤ sizeLine; decide), fun q hq => ?_⟩
      have nqp : q ≠ p := (ne_of_none g1 hq).symm
      have nqc : q ≠ c := (ne_of_none g2 hq).symm
      have k1 : (L2.upd H1 q (.lst [])) p = some (.dK (penKV c (a + 1) l)) := by rw [upd_ne nqp.symm]; exact g1
      have k2 : (L2.upd H1 q (.lst [])) c = some (.lst (cs.map V.int)) := by rw [upd_ne nqc.symm]; exact g2
      have kk : Kp p H (L2.upd H1 q (.lst [])) := gk.trans (Kp.of (same_new hq))
      refine ⟨_, _, dp_ints K k2, .lst (SqL.of upd_same) .nil, PySem.W.shaped_ints cs, shaped_nil, _, rfl, ?_⟩
      rw [eqv_ints_nil]
      revert k1 k2 kk
      generalize L2.upd H1 q (.lst []) = H2
      intro k1 k2 kk
      refine ite2 (fun c2 => ?_) (fun c2 => ?_)
      · have hlen : 0 < cs.length := by cases cs with | nil => simp at c2 | cons x r => simp
        have hm := fmod_bounds (x := a) (m := ((cs.map V.int).length : Int)) (by rw [List.length_map]; omega)
        have hj : (a.fmod ((cs.map V.int).length : Int)).toNat < cs.length := by rw [List.length_map] at *; omega
        refine ⟨_, rfl, p, _, rfl, dget_cells k1, _, rfl, Or.inl ⟨_, rfl, _, rfl, p, _, rfl, dget_cells k1, _, _, rfl, Or.inl ⟨_, SqL.of k2, rfl⟩, _, _, rfl, rfl, (by rw [List.length_map]; omega), ?_⟩⟩
        refine ⟨c, _, _, V.int (cs[(a.fmod ((cs.map V.int).length : Int)).toNat]), rfl, rfl, SqL.of k2, ?_, ?_⟩
        · exact at_of (Int.toNat_of_nonneg hm.1).symm (by rw [List.getElem?_map, List.getElem?_eq_getElem hj]; rfl)
        · generalize cs[(a.fmod ((cs.map V.int).length : Int)).toNat] = x
          refine ⟨_, rfl, _, rfl, p, _, rfl, dget_cells k1, V.ref c, _, rfl, Or.inl ⟨_, SqL.of k2, rfl⟩, _, _, rfl, rfl, _, rfl, ite2 (fun c3 => ?_) (fun c3 => ?_)⟩
          · refine ⟨_, rfl, _, _, rfl, rfl, ⟨by decide, by decide, by decide⟩, _, _, rfl, rfl, _, rfl, ite2 (fun c4 => ?_) (fun c4 => ?_)⟩
            · have c4 : (10 : Int) ^ 18 ≤ x := by simpa using c4
              refine ⟨_, rfl, _, _, rfl, rfl, ⟨by decide, by decide, by decide⟩, _, _, rfl, rfl, _, rfl, _, _, rfl, rfl, ⟨m0, log_lt m0 m1⟩, _, rfl, p, _, rfl, dput_left k1, ?_⟩
              refine ⟨_, rfl, _, _, rfl, rfl, ⟨by decide, by decide, by decide⟩, _, _, rfl, rfl, Or.inl ⟨_, rfl, _, rfl, _, _, rfl, rfl, (by omega), ?_⟩⟩
              refine k _ _ (fmod_bounds m0).1 (fmod_bounds m0).2 ⟨a + 1, _, cs, ⟨upd_same, by rw [upd_ne ncp]; exact k2, h3, by omega, Int.ediv_nonneg ?_ (by omega)⟩, by omega⟩ (kk.trans kp_upd)
              show 0 ≤ x - 10 ^ 18
              omega
            · refine ⟨_, rfl, Or.inl ⟨_, rfl, _, _, rfl, rfl, (by show (2147483587 : Int) ≠ 0; decide), _, _, rfl, rfl, Or.inr ⟨by decide, by decide⟩, ?_⟩⟩
              refine ⟨_, rfl, _, _, rfl, rfl, Or.inl ⟨by decide, by decide⟩, _, rfl, _, _, rfl, rfl, Or.inr ⟨by omega, by omega⟩, ?_⟩
              refine ⟨_, _, rfl, rfl, _, rfl, _, _, rfl, rfl, Or.inl ⟨by decide, by decide⟩, _, _, rfl, rfl, _, _, rfl, rfl, ?_⟩
              refine ⟨_, rfl, Or.inl ⟨_, rfl, _, _, rfl, rfl, (by show (2147483629 : Int) ≠ 0; decide), ?_⟩⟩
              have hz := fmod_bounds (x := x.fmod 2147483587 * 48271 + 40014 * a * a + 59 * a + 17) (m := 2147483629) (by decide)
              refine ⟨_, rfl, _, rfl, _, _, rfl, rfl, _, _, rfl, rfl, Or.inl ⟨by omega, by omega⟩, Or.inl ⟨_, rfl, _, _, rfl, rfl, (by show (2147483549 : Int) ≠ 0; decide), ?_⟩⟩
              refine ⟨_, rfl, _, rfl, _, _, rfl, rfl, Or.inl ?_, Or.inl ⟨_, rfl, _, _, rfl, rfl, (by show (2147483579 : Int) ≠ 0; decide), _, _, rfl, rfl, ⟨by decide, by decide⟩, Or.inl ⟨_, rfl, _, rfl, _, _, rfl, rfl, (by omega), ?_⟩⟩⟩
              · have hy := fmod_bounds (x := (x.fmod 2147483587 * 48271 + 40014 * a * a + 59 * a + 17).fmod 2147483629 * ((x.fmod 2147483587 * 48271 + 40014 * a * a + 59 * a + 17).fmod 2147483629 + 69621)) (m := 2147483549) (by decide)
                exact ⟨by omega, by omega⟩
              exact k _ _ (fmod_bounds m0).1 (fmod_bounds m0).2 ⟨a + 1, l, cs, ⟨k1, k2, h3, by omega, h5⟩, by omega⟩ kk
          · refine ⟨_, rfl, Or.inl ⟨_, rfl, _, _, rfl, rfl, (by show (2147483587 : Int) ≠ 0; decide), _, _, rfl, rfl, Or.inr ⟨by decide, by decide⟩, ?_⟩⟩
            refine ⟨_, rfl, _, _, rfl, rfl, Or.inl ⟨by decide, by decide⟩, _, rfl, _, _, rfl, rfl, Or.inr ⟨by omega, by omega⟩, ?_⟩
            refine ⟨_, _, rfl, rfl, _, rfl, _, _, rfl, rfl, Or.inl ⟨by decide, by decide⟩, _, _, rfl, rfl, _, _, rfl, rfl, ?_⟩
            refine ⟨_, rfl, Or.inl ⟨_, rfl, _, _, rfl, rfl, (by show (2147483629 : Int) ≠ 0; decide), ?_⟩⟩
            have hz := fmod_bounds (x := x.fmod 2147483587 * 48271 + 40014 * a * a + 59 * a + 17) (m := 2147483629) (by decide)
            refine ⟨_, rfl, _, rfl, _, _, rfl, rfl, _, _, rfl, rfl, Or.inl ⟨by omega, by omega⟩, Or.inl ⟨_, rfl, _, _, rfl, rfl, (by show (2147483549 : Int) ≠ 0; decide), ?_⟩⟩
            refine ⟨_, rfl, _, rfl, _, _, rfl, rfl, Or.inl ?_, Or.inl ⟨_, rfl, _, _, rfl, rfl, (by show (2147483579 : Int) ≠ 0; decide), _, _, rfl, rfl, ⟨by decide, by decide⟩, Or.inl ⟨_, rfl, _, rfl, _, _, rfl, rfl, (by omega), ?_⟩⟩⟩
            · have hy := fmod_bounds (x := (x.fmod 2147483587 * 48271 + 40014 * a * a + 59 * a + 17).fmod 2147483629 * ((x.fmod 2147483587 * 48271 + 40014 * a * a + 59 * a + 17).fmod 2147483629 + 69621)) (m := 2147483549) (by decide)
              exact ⟨by omega, by omega⟩
            exact k _ _ (fmod_bounds m0).1 (fmod_bounds m0).2 ⟨a + 1, l, cs, ⟨k1, k2, h3, by omega, h5⟩, by omega⟩ kk
      · skip
        refine ⟨_, rfl, _, rfl, p, _, rfl, dget_cells k1, V.ref c, _, rfl, Or.inl ⟨_, SqL.of k2, rfl⟩, _, _, rfl, rfl, _, rfl, ite2 (fun c3 => ?_) (fun c3 => ?_)⟩
        · refine ⟨_, rfl, _, _, rfl, rfl, ⟨by decide, by decide, by decide⟩, _, _, rfl, rfl, _, rfl, ite2 (fun c4 => ?_) (fun c4 => ?_)⟩
          · have c4 : (10 : Int) ^ 18 ≤ 41 * a + 23 := by simpa using c4
            refine ⟨_, rfl, _, _, rfl, rfl, ⟨by decide, by decide, by decide⟩, _, _, rfl, rfl, _, rfl, _, _, rfl, rfl, ⟨m0, log_lt m0 m1⟩, _, rfl, p, _, rfl, dput_left k1, ?_⟩
            refine ⟨_, rfl, _, _, rfl, rfl, ⟨by decide, by decide, by decide⟩, _, _, rfl, rfl, Or.inl ⟨_, rfl, _, rfl, _, _, rfl, rfl, (by omega), ?_⟩⟩
            refine k _ _ (fmod_bounds m0).1 (fmod_bounds m0).2 ⟨a + 1, _, cs, ⟨upd_same, by rw [upd_ne ncp]; exact k2, h3, by omega, Int.ediv_nonneg ?_ (by omega)⟩, by omega⟩ (kk.trans kp_upd)
            show 0 ≤ 41 * a + 23 - 10 ^ 18
            omega
          · refine ⟨_, rfl, Or.inl ⟨_, rfl, _, _, rfl, rfl, (by show (2147483587 : Int) ≠ 0; decide), _, _, rfl, rfl, Or.inr ⟨by decide, by decide⟩, ?_⟩⟩
            refine ⟨_, rfl, _, _, rfl, rfl, Or.inl ⟨by decide, by decide⟩, _, rfl, _, _, rfl, rfl, Or.inr ⟨by omega, by omega⟩, ?_⟩
            refine ⟨_, _, rfl, rfl, _, rfl, _, _, rfl, rfl, Or.inl ⟨by decide, by decide⟩, _, _, rfl, rfl, _, _, rfl, rfl, ?_⟩
            refine ⟨_, rfl, Or.inl ⟨_, rfl, _, _, rfl, rfl, (by show (2147483629 : Int) ≠ 0; decide), ?_⟩⟩
            have hz := fmod_bounds (x := (41 * a + 23).fmod 2147483587 * 48271 + 40014 * a * a + 59 * a + 17) (m := 2147483629) (by decide)
            refine ⟨_, rfl, _, rfl, _, _, rfl, rfl, _, _, rfl, rfl, Or.inl ⟨by omega, by omega⟩, Or.inl ⟨_, rfl, _, _, rfl, rfl, (by show (2147483549 : Int) ≠ 0; decide), ?_⟩⟩
            refine ⟨_, rfl, _, rfl, _, _, rfl, rfl, Or.inl ?_, Or.inl ⟨_, rfl, _, _, rfl, rfl, (by show (2147483579 : Int) ≠ 0; decide), _, _, rfl, rfl, ⟨by decide, by decide⟩, Or.inl ⟨_, rfl, _, rfl, _, _, rfl, rfl, (by omega), ?_⟩⟩⟩
            · have hy := fmod_bounds (x := ((41 * a + 23).fmod 2147483587 * 48271 + 40014 * a * a + 59 * a + 17).fmod 2147483629 * (((41 * a + 23).fmod 2147483587 * 48271 + 40014 * a * a + 59 * a + 17).fmod 2147483629 + 69621)) (m := 2147483549) (by decide)
              exact ⟨by omega, by omega⟩
            exact k _ _ (fmod_bounds m0).1 (fmod_bounds m0).2 ⟨a + 1, l, cs, ⟨k1, k2, h3, by omega, h5⟩, by omega⟩ kk
        · refine ⟨_, rfl, Or.inl ⟨_, rfl, _, _, rfl, rfl, (by show (2147483587 : Int) ≠ 0; decide), _, _, rfl, rfl, Or.inr ⟨by decide, by decide⟩, ?_⟩⟩
          refine ⟨_, rfl, _, _, rfl, rfl, Or.inl ⟨by decide, by decide⟩, _, rfl, _, _, rfl, rfl, Or.inr ⟨by omega, by omega⟩, ?_⟩
          refine ⟨_, _, rfl, rfl, _, rfl, _, _, rfl, rfl, Or.inl ⟨by decide, by decide⟩, _, _, rfl, rfl, _, _, rfl, rfl, ?_⟩
          refine ⟨_, rfl, Or.inl ⟨_, rfl, _, _, rfl, rfl, (by show (2147483629 : Int) ≠ 0; decide), ?_⟩⟩
          have hz := fmod_bounds (x := (41 * a + 23).fmod 2147483587 * 48271 + 40014 * a * a + 59 * a + 17) (m := 2147483629) (by decide)
          refine ⟨_, rfl, _, rfl, _, _, rfl, rfl, _, _, rfl, rfl, Or.inl ⟨by omega, by omega⟩, Or.inl ⟨_, rfl, _, _, rfl, rfl, (by show (2147483549 : Int) ≠ 0; decide), ?_⟩⟩
          refine ⟨_, rfl, _, rfl, _, _, rfl, rfl, Or.inl ?_, Or.inl ⟨_, rfl, _, _, rfl, rfl, (by show (2147483579 : Int) ≠ 0; decide), _, _, rfl, rfl, ⟨by decide, by decide⟩, Or.inl ⟨_, rfl, _, rfl, _, _, rfl, rfl, (by omega), ?_⟩⟩⟩
          · have hy := fmod_bounds (x := ((41 * a + 23).fmod 2147483587 * 48271 + 40014 * a * a + 59 * a + 17).fmod 2147483629 * (((41 * a + 23).fmod 2147483587 * 48271 + 40014 * a * a + 59 * a + 17).fmod 2147483629 + 69621)) (m := 2147483549) (by decide)
            exact ⟨by omega, by omega⟩
          exact k _ _ (fmod_bounds m0).1 (fmod_bounds m0).2 ⟨a + 1, l, cs, ⟨k1, k2, h3, by omega, h5⟩, by omega⟩ kk
/-- the draw, as its callers have it -/
structure TxtD (K : PySem.W.Frag) (mg : Str → Option Value) (fD : Addr) : Prop extends TxtA K mg where
  m_law_draw : mg "_law_draw" = some (.ref fD)
  k_law_draw : PySem.W.keepIn K (.ref fD) = true
abbrev s__law_pick : Stmt := top 30
abbrev N__law_pick : List Str := ["_law_pen_here", "_law_items"]
abbrev P__law_pick : List Str := ["_law_pen_here", "_law_items"]
theorem sc__law_pick : FnScope N__law_pick P__law_pick (defScope s__law_pick) := ⟨rfl, rfl, rfl, by decide +kernel, rfl, by decide +kernel, by decide +kernel⟩

theorem ok_pickL {f fD : Addr} {fd fdD : FuncData} (F : Fun K "_law_pick" "_law_pick" s__law_pick f fd) (T : TxtD K mg fD) (FD : Fun K "_law_draw" "_law_draw" s__law_draw fD fdD) (b_law_draw : Binds K fdD P__law_draw []) : FnOk P w K mg base CX0 2 f fd P__law_pick (spPickL K) := by
  have G_law_draw : FnOk P w K mg base CX0 1 fD fdD P__law_draw spDraw := ok_draw FD T.toTxtA
  refine F.ok sc__law_pick (fun vs H Q E h => ?_) (fun cdv A outer s H vs Q E hr h => ?_)
  · obtain ⟨p, c, a, xs, n, rfl, _⟩ := h
    rfl
  · obtain ⟨p, c, a, xs, n, rfl, hp, hn, hS, h0, h1, k⟩ := h
    refine ⟨_, (pss_one (ps_ret (pe_ix ix_list (pv 1) (pe_call G_law_draw (hr.mono (by decide)) (by rfl) T.m_law_draw T.k_law_draw b_law_draw .nil pass0 (pa_cons (pv 0) (pa_cons (pe_callB call_len (by rfl) T.len PySem.boot_len (pa_cons (pv 1) pa_nil)) pa_nil))) (fun _ _ => rfl)))), ?_⟩
    refine ⟨_, rfl, _, rfl, _, rfl, _, _, rfl, Or.inl ⟨_, hS, rfl⟩, p, c, _, n, rfl, hp, hn, by omega, by omega, fun d H' d0 d1 hp' kk => ?_⟩
    obtain ⟨kvs, hd⟩ := hp.dk
    have hj : d.toNat < xs.length := by omega
    exact ⟨a, xs, d, _, rfl, rfl, kp_seq kk hd hS, at_of (Int.toNat_of_nonneg d0).symm (List.getElem?_eq_getElem hj), k _ _ _ (List.getElem?_eq_getElem hj) hp' kk⟩
theorem ok_pickS {f fD : Addr} {fd fdD : FuncData} (F : Fun K "_law_pick" "_law_pick" s__law_pick f fd) (T : TxtD K mg fD) (FD : Fun K "_law_draw" "_law_draw" s__law_draw fD fdD) (b_law_draw : Binds K fdD P__law_draw []) : FnOk P w K mg base CX0 2 f fd P__law_pick spPickS := by
  have G_law_draw : FnOk P w K mg base CX0 1 fD fdD P__law_draw spDraw := ok_draw FD T.toTxtA
  refine F.ok sc__law_pick (fun vs H Q E h => ?_) (fun cdv A outer s H vs Q E hr h => ?_)
  · obtain ⟨p, c, z, n, rfl, _⟩ := h
    rfl
  · obtain ⟨p, c, z, n, rfl, hp, hn, h0, h1, k⟩ := h
    refine ⟨_, (pss_one (ps_ret (pe_ix ix_str (pv 1) (pe_call G_law_draw (hr.mono (by decide)) (by rfl) T.m_law_draw T.k_law_draw b_law_draw .nil pass0 (pa_cons (pv 0) (pa_cons (pe_callB call_len (by rfl) T.len PySem.boot_len (pa_cons (pv 1) pa_nil)) pa_nil))) (fun _ _ => rfl)))), ?_⟩
    have hz : z.length ≤ sizeLine := Nat.le_of_lt (small1000 h1)
    refine ⟨_, rfl, _, rfl, _, rfl, _, _, rfl, ⟨hz, rfl⟩, p, c, _, n, rfl, hp, hn, by omega, by omega, fun d H' d0 d1 hp' kk => ?_⟩
    have hj : d.toNat < (TL.tl z).length := by rw [← TL.len_tl]; omega
    exact ⟨z, d, _, rfl, rfl, hz, at_of' (Int.toNat_of_nonneg d0).symm (List.getElem?_eq_getElem hj), k _ _ _ (List.getElem?_eq_getElem hj) hp' kk⟩
end
end Vf
set_option Elab.async false
set_option linter.all false
set_option maxRecDepth 100000
set_option maxHeartbeats 4000000
/-! nested data -/
namespace Vf
open PySem L2 PyProof.Rows
def Dat : HO → Prop
  | .lst _ => True
  | .tup _ => True
  | .frz _ _ => True
  | _ => False
/-- lists and tuples stand as they stood -/
def Kl (H H' : Hp) : Prop := ∀ b o, H b = some o → Dat o → H' b = some o
theorem Kl.refl (H : Hp) : Kl H H := fun _ _ e _ => e
theorem Kl.trans {H H1 H2 : Hp} (a : Kl H H1) (b : Kl H1 H2) : Kl H H2 := fun c o e d => b c o (a c o e d) d
theorem Kl.same {H H' : Hp} (s : Same H H') : Kl H H' := fun b o e _ => s b o e
theorem Kl.kp {H H' : Hp} {p : Addr} {kvs : List (Key × V)} (k : Kp p H H') (hp : H p = some (.dK kvs)) : Kl H H' := fun b o e d => k b o e fun z => by
  rw [z, hp] at e
  cases e
  exact d
theorem Kl.del {H H' : Hp} (k : Kl H H') (a : Addr) : Kl (L2.del H a) (L2.del H' a) := fun b o e d => by
  by_cases hb : b = a
  · rw [hb, del_same] at e; cases e
  · rw [del_ne hb] at e ⊢
    exact k b o e d
theorem Kl.undel (H : Hp) (a : Addr) : Kl (L2.del H a) H := fun b o e d => by
  by_cases hb : b = a
  · rw [hb, del_same] at e; cases e
  · rw [del_ne hb] at e
    exact e
theorem del_upd (H : Hp) (a : Addr) (o : HO) : L2.del (L2.upd H a o) a = L2.del H a := by
  funext b
  by_cases hb : b = a
  · rw [hb, del_same, del_same]
  · rw [del_ne hb, del_ne hb, upd_ne hb]
theorem Kl.rd {H H' : Hp} {a : Addr} {u : HO} (k : Kl H H') (d : Dat u) (h : Rd H a u) : Rd H' a u := by
  rcases h with h | ⟨o, h⟩
  · exact .inl (k _ _ h d)
  · exact .inr ⟨o, k _ _ h trivial⟩
theorem Kl.seq {K : PySem.W.Frag} {H H' : Hp} {a : Addr} {xs : List V} (k : Kl H H') (h : SqL K H a xs) : SqL K H' a xs := by
  rcases h with h | h
  · exact .inl (k.rd trivial h)
  · exact .inr h
theorem Kl.seqT {K : PySem.W.Frag} {H H' : Hp} {a : Addr} {xs : List V} (k : Kl H H') (h : SqT K H a xs) : SqT K H' a xs := by
  rcases h with h | h
  · exact .inl (k.rd trivial h)
  · exact .inr h
end Vf
namespace L2
open PySem PyProof.Rows Vf
mutual
theorem Dp.kl {K : PySem.W.Frag} {H H' : Hp} (k : Kl H H') : ∀ (d : PyData) (v : V), Dp K H v d → Dp K H' v d
  | .none, _, h => by cases h; exact .non
  | .bool b, _, h => by cases h; exact .bl b
  | .int i, _, h => by cases h; exact .int i
  | .str x, _, h => by cases h; exact .str x
  | .list ds, _, h => by
    cases h with
    | lst a b => exact .lst (k.seq a) (DpAll.kl k ds _ b)
  | .tuple ds, _, h => by
    cases h with
    | tup a b => exact .tup (k.seqT a) (DpAll.kl k ds _ b)
  | .dict kvs, _, h => by cases h
theorem DpAll.kl {K : PySem.W.Frag} {H H' : Hp} (k : Kl H H') : ∀ (ds : List PyData) (vs : List V), DpAll K H vs ds → DpAll K H' vs ds
  | [], _, h => by cases h; exact .nil
  | d :: ds, _, h => by
    cases h with
    | cons a b => exact .cons (Dp.kl k d _ a) (DpAll.kl k ds _ b)
end
theorem Dp.mv {K : PySem.W.Frag} {H H' : Hp} {v : V} {d : PyData} (h : Dp K H v d) (k : Kl H H') : Dp K H' v d := Dp.kl k d v h
theorem DpAll.mv {K : PySem.W.Frag} {H H' : Hp} {vs : List V} {ds : List PyData} (h : DpAll K H vs ds) (k : Kl H H') : DpAll K H' vs ds := DpAll.kl k ds vs h
theorem DpAll.length {K : PySem.W.Frag} {H : Hp} : ∀ {vs : List V} {ds : List PyData}, DpAll K H vs ds → vs.length = ds.length
  | _, _, .nil => rfl
  | _, _, .cons _ t => congrArg Nat.succ (DpAll.length t)
theorem DpAll.get {K : PySem.W.Frag} {H : Hp} : ∀ {vs : List V} {ds : List PyData} {i : Nat} {d : PyData}, DpAll K H vs ds → ds[i]? = some d → ∃ v, vs[i]? = some v ∧ Dp K H v d
  | _, _, _, _, .nil, e => by simp at e
  | _, _, 0, _, .cons h t, e => by simp at e; subst e; exact ⟨_, rfl, h⟩
  | _, _, i + 1, d, .cons h t, e => by
    obtain ⟨v, h1, h2⟩ := DpAll.get (i := i) (d := d) t (by simpa using e)
    exact ⟨v, by simpa using h1, h2⟩
theorem DpAll.append {K : PySem.W.Frag} {H : Hp} : ∀ {vs ws : List V} {ds es : List PyData}, DpAll K H vs ds → DpAll K H ws es → DpAll K H (vs ++ ws) (ds ++ es)
  | _, _, _, _, .nil, h => h
  | _, _, _, _, .cons a t, h => .cons a (DpAll.append t h)
theorem DpAll.snoc {K : PySem.W.Frag} {H : Hp} {vs : List V} {v : V} {ds : List PyData} {d : PyData} (h : DpAll K H vs ds) (g : Dp K H v d) : DpAll K H (vs ++ [v]) (ds ++ [d]) := h.append (.cons g .nil)
theorem DpAll.take {K : PySem.W.Frag} {H : Hp} : ∀ {vs : List V} {ds : List PyData} (n : Nat), DpAll K H vs ds → DpAll K H (vs.take n) (ds.take n)
  | _, _, 0, _ => .nil
  | _, _, n + 1, .nil => .nil
  | _, _, n + 1, .cons a t => .cons a (DpAll.take n t)
theorem DpAll.drop {K : PySem.W.Frag} {H : Hp} : ∀ {vs : List V} {ds : List PyData} (n : Nat), DpAll K H vs ds → DpAll K H (vs.drop n) (ds.drop n)
  | _, _, 0, h => h
  | _, _, n + 1, .nil => .nil
  | _, _, n + 1, .cons a t => DpAll.drop n t
theorem Dp.listE {K : PySem.W.Frag} {H : Hp} {v : V} {ds : List PyData} (h : Dp K H v (.list ds)) : ∃ a xs, v = .ref a ∧ SqL K H a xs ∧ DpAll K H xs ds := by
  cases h with
  | lst a b => exact ⟨_, _, rfl, a, b⟩
theorem Dp.tupE {K : PySem.W.Frag} {H : Hp} {v : V} {ds : List PyData} (h : Dp K H v (.tuple ds)) : ∃ a xs, v = .ref a ∧ SqT K H a xs ∧ DpAll K H xs ds := by
  cases h with
  | tup a b => exact ⟨_, _, rfl, a, b⟩
theorem Dp.intE {K : PySem.W.Frag} {H : Hp} {v : V} {i : Int} (h : Dp K H v (.int i)) : v = .int i := by
  cases h; rfl
theorem Dp.strE {K : PySem.W.Frag} {H : Hp} {v : V} {i : Str} (h : Dp K H v (.str i)) : v = .str i := by
  cases h; rfl
theorem dpAll_ints (K : PySem.W.Frag) (H : Hp) : ∀ cs : List Int, DpAll K H (cs.map V.int) (cs.map PyData.int)
  | [] => .nil
  | c :: r => .cons (.int c) (dpAll_ints K H r)
theorem dpAll_intsE {K : PySem.W.Frag} {H : Hp} : ∀ {cs : List Int} {vs : List V}, DpAll K H vs (cs.map PyData.int) → vs = cs.map V.int
  | [], _, h => by cases h; rfl
  | c :: r, _, h => by
    cases h with
    | cons a b => rw [a.intE, dpAll_intsE b]; rfl
theorem dpAll_strs (K : PySem.W.Frag) (H : Hp) : ∀ cs : List Str, DpAll K H (cs.map V.str) (cs.map PyData.str)
  | [] => .nil
  | c :: r => .cons (.str c) (dpAll_strs K H r)
theorem dpAll_strsE {K : PySem.W.Frag} {H : Hp} : ∀ {cs : List Str} {vs : List V}, DpAll K H vs (cs.map PyData.str) → vs = cs.map V.str
  | [], _, h => by cases h; rfl
  | c :: r, _, h => by
    cases h with
    | cons a b => rw [a.strE, dpAll_strsE b]; rfl
end L2
namespace Vf
open PySem L2 PyProof.Rows
/-! a code's data -/
abbrev Row := List (Int × Int)
def tupD (gb : Int × Int) : PyData := .tuple [.int gb.1, .int gb.2]
def rowD (r : Row) : PyData := .list (r.map tupD)
def rowT (r : Row) : PyData := .tuple (r.map tupD)
def rowsD (rs : List Row) : PyData := .list (rs.map rowD)
def rowsT (rs : List Row) : PyData := .tuple (rs.map rowT)
def intsD (es : List Int) : PyData := .list (es.map PyData.int)
def intsT (es : List Int) : PyData := .tuple (es.map PyData.int)
def codeD (z : Str) (rs : List Row) (es : List Int) : PyData := .tuple [.str z, rowsD rs, intsD es]
/-- rows and ends of a code with so many values -/
structure Good (m : Nat) (rs : List Row) (es : List Int) : Prop where
  len : es.length = rs.length
  pos : 0 < rs.length
  row : ∀ r ∈ rs, r.length = m ∧ ∀ gb ∈ r, 0 ≤ gb.1 ∧ gb.1 < rs.length ∧ 0 ≤ gb.2 ∧ gb.2 < 100
  ends : ∀ e ∈ es, 0 ≤ e ∧ e < 100
theorem del_some {H : Hp} {a b : Addr} {o : HO} (e : L2.del H a b = some o) : b ≠ a ∧ H b = some o := by
  by_cases hb : b = a
  · rw [hb, del_same] at e; cases e
  · rw [del_ne hb] at e
    exact ⟨hb, e⟩
/-- a row of a code of c states -/
def RowOk (m : Nat) (c : Int) (r : Row) : Prop := r.length = m ∧ ∀ gb ∈ r, 0 ≤ gb.1 ∧ gb.1 < c ∧ 0 ≤ gb.2 ∧ gb.2 < 100
/-- a comprehension without a test -/
theorem lcYes {σ : L2.St} {H : Hp} {A B : Hp → Prop} (h : A H) : tYes σ H (fun b H' => if b = true then A H' else B H') := by
  show (if true = true then A H else B H)
  rw [if_pos rfl]
  exact h
end Vf
namespace L2
theorem Same.put {H H' : Hp} {r : PySem.Addr} {o : HO} (s : Same H H') (h : H r = none) : Same H (upd H' r o) := fun b u e => by
  rw [upd_ne (ne_of_none e h)]
  exact s b u e
end L2
set_option Elab.async false
set_option linter.all false
set_option maxRecDepth 100000
set_option maxHeartbeats 4000000
/-! for i, c in enumerate(text); walks of texts -/
namespace Vf
open PySem L2 PyProof.Rows
/-- the text x, each sign in a new pair with its place -/
def Itse (x : Str) : It :=
  ⟨fun i _ => i < x.cps.size, fun i H v H' => ∃ T c, v = .ref T ∧ H T = none ∧ H' = L2.upd H T (.tup [.int (i : Nat), .str (sg c)]) ∧ x.cps[i]? = some c, fun i _ => x.cps.size ≤ i⟩
theorem turn_enumS {P : Program} {w : World} {K : PySem.W.Frag} {elts : List Expr} {kk : Nat} {tpos : Pos} (x : Str) (t : Tok) (e it : Addr) :
    Turn P w K (.Tuple elts kk tpos) (Itse x) [e, it] e (fun i h => (∃ old, IsEnum h e it ((i : Nat) : Int) old) ∧ h.IsStrIter it (strIterType x) x t i ∧ e ≠ it ∧ i ≤ x.cps.size) where
  mem := by simp
  obj := fun i h st b hb => by
    obtain ⟨⟨old, he⟩, ⟨o, ho, hc, hd⟩, _⟩ := st
    have e' : b = e ∨ b = it := by simpa using hb
    rcases e' with z | z
    · rw [z]; exact ⟨_, he, fun v q => nomatch q⟩
    · rw [z]; exact ⟨o, ho, fun v q => by rw [hd] at q; cases q⟩
  keep := fun i h h' st k => let ⟨⟨old, he⟩, ⟨o, ho, r⟩, hne, hle⟩ := st; ⟨⟨old, k e (by simp) _ he⟩, ⟨o, k it (by simp) o ho, r⟩, hne, hle⟩
  item := by
    intro X hP hw hK hc i pins s σ H E I hf st hg
    subst hP hw hK
    obtain ⟨⟨old, he⟩, hit, hne, hle⟩ := st
    have hg : i < x.cps.size := hg
    have hel : e < s.heap.objs.size := Heap.lt_size he
    have hil : it < s.heap.objs.size := by obtain ⟨_, q, _⟩ := hit; exact Heap.lt_size q
    have D : Draws X.prog X.w X.A.in1 it [it] x.cps.size (fun i v => ∃ c u, x.cps[i]? = some c ∧ v = .str ⟨#[c]⟩ u) (fun i h => h.IsStrIter it (strIterType x) x t i) := Draws.text (A := X.A.in1) (show X.A.in1.handled = none from I.ok.hd hc) it x t
    refine wpAny_pyNext_enum_itemC D he hit hg hne (by simpa using hne) fun y h' tk hy ho hit' hT hsz hk => ?_
    obtain ⟨c, u, hcx, rfl⟩ := hy
    refine ⟨_, rfl, wpAny_letOwnedTupleGo_enum (s := { s with heap := h', toks := tk + 1 }) ho fun h'' he' sb => ?_⟩
    have hT2 : h''.get? s.heap.objs.size = some { cls := .type "tuple", data := .seq #[.int i tk, .str ⟨#[c]⟩ u] } := (sb.2 _ (Nat.ne_of_gt hel)).trans hT
    have new : ObjOk X.prog X.w (L2.upd H s.heap.objs.size (.tup [.int (i : Nat), .str (sg c)])) h'' s.heap.objs.size (.tup [.int (i : Nat), .str (sg c)]) :=
      ⟨by show 2 ≤ sizeLine; decide, [.int i tk, .str ⟨#[c]⟩ u], .cons ⟨_, rfl⟩ (.cons ⟨_, rfl⟩ .nil), ⟨_, hT2, rfl, _, rfl⟩⟩
    have I1 : Inv X pins σ (L2.upd H s.heap.objs.size (.tup [.int (i : Nat), .str (sg c)])) { s with heap := h'', toks := tk + 1 } :=
      I.turnedNew (ch := [e, it]) (fun b ob hb q => (sb.2 b (fun z => hb (by simp [z]))).trans (hk b ob (fun z => hb (by simp [z])) (fun z => hb (by simp [z])) q)) hf (Nat.le_refl _) new
    obtain ⟨oi, hoi, r⟩ := hit'
    refine ⟨.ref s.heap.objs.size, _, I1, rfl, ⟨_, c, rfl, I.hok.fresh (Nat.le_refl _), rfl, hcx⟩, ⟨⟨.str ⟨#[c]⟩ u, ?_⟩, ⟨oi, (sb.2 it (Ne.symm hne)).trans hoi, r⟩, hne, hg⟩, fun b hb => ?_⟩
    · have e1 : ((i + 1 : Nat) : Int) = (i : Int) + 1 := by omega
      rw [e1]; exact he'
    · have hb' : b < s.heap.objs.size := by
        have e' : b = e ∨ b = it := by simpa using hb
        rcases e' with z | z
        · rw [z]; exact hel
        · rw [z]; exact hil
      rw [upd_ne (Nat.ne_of_lt hb')]
      exact (hf b hb).1
  done := by
    intro X hP hw hK hc i pins s σ H E I hf st hg
    subst hP hw hK
    obtain ⟨⟨old, he⟩, hit, hne, hle⟩ := st
    have hg : x.cps.size ≤ i := hg
    have ei : i = x.cps.size := Nat.le_antisymm hle hg
    subst ei
    obtain ⟨f0, f1, f2, f3, f4, f5⟩ := hf it (by simp)
    have D : Draws X.prog X.w X.A.in1 it [it] x.cps.size (fun i v => ∃ c u, x.cps[i]? = some c ∧ v = .str ⟨#[c]⟩ u) (fun i h => h.IsStrIter it (strIterType x) x t i) := Draws.text (A := X.A.in1) (show X.A.in1.handled = none from I.ok.hd hc) it x t
    exact wpAny_pyNext_enum_endD D he hit fun h' eb => ⟨rfl, I.turned (t' := s.toks) (fun b o hb q => eb b o hb q) f0 f1 f3 f4 f5⟩
  self := fun A i s Q E st h => let ⟨⟨_, he⟩, _⟩ := st; wpAny_pyIter_enum he h
def iEnumS (ta : TA) : TI := fun σ H R => ta σ H fun vs H1 => ∃ z, vs = [.str z] ∧ R (Itse z) H1
theorem pi_enumS {X : Cx} {e : Expr} {ta : TA} {p pos tpos : Pos} {elts : List Expr} {kk : Nat} (hg : Gl X "enumerate") (hm : X.mg "enumerate" = none) (ha : PA X [e] ta) (hs : starEach [e] X.env = [(false, eval e X.env)] := by rfl) :
    PI X (.Tuple elts kk tpos) (.Call (.Name "enumerate" p) [e] [] pos) (iEnumS ta) := by
  refine ⟨fun pins s σ H R I h => ?_⟩
  refine Call_ (ld_blt I hg hm boot_enumerate (PyProof.Rows.callWith_type1 (thn (ha.run pos pins s σ H _ I h) fun us s1 ⟨vs, H1, I1, r1, q1⟩ => ?_) hs rfl))
  obtain ⟨x, ex, q⟩ := q1
  subst ex
  cases r1 with
  | cons r rr =>
    cases rr
    obtain ⟨t, rfl⟩ := r
    refine call_enumerate_str fun h' he hit hsz hk => wpAny_pyIter_enum he ?_
    have I2 : Inv X pins σ H1 { s1 with heap := h' } := I1.kept (t' := s1.toks) hk
    refine ⟨s1.heap.objs.size + 1, [s1.heap.objs.size + 1, s1.heap.objs.size], _, _, H1, rfl, I2, turn_enumS x t (s1.heap.objs.size + 1) s1.heap.objs.size, ⟨⟨.none, he⟩, hit, Nat.succ_ne_self _, Nat.zero_le _⟩, fun b hb => ?_, q⟩
    have e' : b = s1.heap.objs.size + 1 ∨ b = s1.heap.objs.size := by simpa using hb
    have hle : s1.heap.objs.size ≤ b := by
      rcases e' with z | z
      · rw [z]; exact Nat.le_add_right _ _
      · rw [z]; exact Nat.le_refl _
    exact I1.fpOk hle (I1.hok.fresh hle)
theorem walk_strS {z : Str} : Walk (Its z) z.length (fun _ => True) (fun i H v H' => H' = H ∧ ∃ c, (TL.tl z)[i]? = some c ∧ v = .str (sg c)) :=
  ⟨fun _ _ hi _ => hi, fun _ _ => Nat.le_refl _, fun i _ _ _ _ _ y => ⟨y.1, by obtain ⟨c, h, e⟩ := y.2; exact ⟨c, by simpa using h, e⟩⟩⟩
theorem walk_enumS {z : Str} : Walk (Itse z) z.length (fun _ => True) (fun i H v H' => ∃ T c, v = .ref T ∧ H T = none ∧ H' = L2.upd H T (.tup [.int (i : Nat), .str (sg c)]) ∧ (TL.tl z)[i]? = some c) :=
  ⟨fun _ _ hi _ => hi, fun _ _ => Nat.le_refl _, fun i _ _ _ _ _ y => by obtain ⟨T, c, h1, h2, h3, h4⟩ := y; exact ⟨T, c, h1, h2, h3, by simpa using h4⟩⟩
/-! rules with the written part named, for a comprehension's block -/
section
variable {X : Cx} {K : PySem.W.Frag} {tg : Expr}
def rTupOf (K : PySem.W.Frag) : List V → Hp → VK → Prop := fun xs H Q => ∃ p ys, xs = [.ref p] ∧ ((SqL K H p ys ∧ ∀ l, H l = none → Q (.ref l) (L2.upd H l (.tup ys))) ∨ (SqT K H p ys ∧ Q (.ref p) H))
def rLstOf (K : PySem.W.Frag) : List V → Hp → VK → Prop := fun xs H Q => ∃ p ys, xs = [.ref p] ∧ (SqL K H p ys ∨ SqT K H p ys) ∧ ∀ l, H l = none → Q (.ref l) (L2.upd H l (.lst ys))
def rLenOf (K : PySem.W.Frag) : List V → Hp → VK → Prop := fun xs H Q => ∃ x n, xs = [x] ∧ LenV K x H n ∧ Q (.int (n : Nat)) H
theorem call_tupleK (hK : X.K = K) : CallR X (.type "tuple") (rTupOf K) := by subst hK; exact call_tuple_of
theorem call_listK (hK : X.K = K) : CallR X (.type "list") (rLstOf K) := by subst hK; exact call_list_of
theorem call_lenK (hK : X.K = K) : CallR X (.builtin "len") (rLenOf K) := by subst hK; exact call_len
theorem pi_listK (hK : X.K = K) {l : Expr} {tl : TE} (hl : PE X l tl) : PI X tg l (iList K tl) := by subst hK; exact pi_list hl
theorem pi_tupK (hK : X.K = K) {l : Expr} {tl : TE} (hl : PE X l tl) : PI X tg l (iTup K tl) := by subst hK; exact pi_tup hl
theorem ix_listK (hK : X.K = K) : IxR X (rIxL K) := by subst hK; exact ix_list
theorem ix_tupK (hK : X.K = K) : IxR X (rIxT K) := by subst hK; exact ix_tup
end
theorem pi_or {X : Cx} {tg e : Expr} {w1 w2 : TI} (h1 : PI X tg e w1) (h2 : PI X tg e w2) : PI X tg e (fun σ H R => w1 σ H R ∨ w2 σ H R) :=
  ⟨fun pins s σ H R I h => h.elim (fun h => h1.run pins s σ H R I h) fun h => h2.run pins s σ H R I h⟩
end Vf
set_option Elab.async false
set_option linter.all false
set_option maxRecDepth 100000
set_option maxHeartbeats 4000000
/-! for i, x in enumerate(tuple) -/
namespace Vf
open PySem L2 PyProof.Rows
theorem meets_enumerate_newT (l : Addr) (o : Obj) (items : Array Value) (ht : o.cls = .type "tuple") (hd : ∃ n, o.data = .seq items n) :
    Meets (Builtin.«enumerate.__new__» ⟨[.type "enumerate", .ref l], []⟩) (fun _ R s => s.heap.get? l = some o ∧
      R (.ok (.ret (.ref (s.heap.push { cls := .type "tuple_iterator", data := .fields #[.ref l, .int 0 0] }).objs.size)))
        { s with heap := (s.heap.push { cls := .type "tuple_iterator", data := .fields #[.ref l, .int 0 0] }).push { cls := .type "enumerate", data := .fields #[.none, .bool false, .ref s.heap.objs.size, rawInt 0, .none, .none] } }) :=
  .of_wp fun prog w A R s h => by
    obtain ⟨hl, h⟩ := h
    have hT : s.heap.IsTuple l items := ⟨o, hl, ht, hd⟩
    obtain ⟨hp, g, d, tk, os⟩ := s
    have hsub := sub_enumerate
    wp_walk
    refine wpAny_stack_any fun st => wpAny_pure ?_
    split
    · rename_i c _ _ _ _ _
      cases (c == Value.type "enumerate")
      · wp_walk using wpAny_pyIter_tuple hT
        exact ⟨_, rfl, h⟩
      · wp_walk using wpAny_pyIter_tuple hT
        exact ⟨_, rfl, h⟩
    · wp_walk using wpAny_pyIter_tuple hT
      exact ⟨_, rfl, h⟩
section
variable {prog : Program} {w : World} {A : Around} {E : Value → Shared → Prop} {s : Shared}
theorem call_enumerate_tuple {l : Addr} {items : Array Value} {Q : Value → Shared → Prop} (hL : s.heap.IsTuple l items)
    (h : ∀ h', IsEnum h' (s.heap.objs.size + 1) s.heap.objs.size 0 .none → h'.IsTupleIter s.heap.objs.size l 0 → h'.objs.size = s.heap.objs.size + 2 →
      (∀ b o, s.heap.get? b = some o → h'.get? b = some o) → Q (.ref (s.heap.objs.size + 1)) { s with heap := h' }) :
    wpAny (model prog w) A (call (.type "enumerate") [.ref l]) Q E s := by
  obtain ⟨o, hl, hc, hd⟩ := hL
  refine callType_new F.called_enumerate (by decide) (F.typeCall_enumerate_1 _) (F.newCall_enumerate_1 _) (fun obj => F.args_object_init_2 obj _) F.entry_enumerate_new
    (meets_enumerate_newT l o items hc hd) ⟨hl, ?_⟩
  have hz : (s.heap.push { cls := .type "tuple_iterator", data := .fields #[.ref l, .int 0 0] }).objs.size = s.heap.objs.size + 1 := Heap.size_push ..
  show _ ∧ _
  rw [hz]
  have he : IsEnum ((s.heap.push { cls := .type "tuple_iterator", data := .fields #[.ref l, .int 0 0] }).push
      { cls := .type "enumerate", data := .fields #[.none, .bool false, .ref s.heap.objs.size, rawInt 0, .none, .none] }) (s.heap.objs.size + 1) s.heap.objs.size 0 .none := by
    have := Heap.get?_push_size (s.heap.push { cls := .type "tuple_iterator", data := .fields #[.ref l, .int 0 0] })
      (o := { cls := .type "enumerate", data := .fields #[.none, .bool false, .ref s.heap.objs.size, rawInt 0, .none, .none] }) rfl
    rw [hz] at this; exact this
  refine ⟨⟨_, he, rfl⟩, h _ he ⟨_, Heap.get?_push_of_some _ (Heap.get?_push_size _ rfl), rfl, rfl⟩ (by rw [Heap.size_push, hz]) fun b o x => Heap.get?_push_of_some _ (Heap.get?_push_of_some _ x)⟩
end
/-- the tuple at a, each item in a new pair -/
def Itet (K : PySem.W.Frag) (a : Addr) : It :=
  ⟨fun i H => ∃ (xs : List V) (x : V), SqT K H a xs ∧ xs[i]? = some x, fun i H v H' => ∃ T x, v = .ref T ∧ H T = none ∧ H' = L2.upd H T (.tup [.int (i : Nat), x]) ∧ ∀ xs, SqT K H a xs → xs[i]? = some x, fun i H => ∃ xs : List V, SqT K H a xs ∧ xs.length ≤ i⟩
theorem drawsAtEnd {prog : Program} {w : World} {A : Around} (hh : A.handled = none) (it t : Addr) (items : Array Value) (i : Nat) (hi : items[i]? = none) :
    Draws prog w A it [it, t] i (fun _ _ => False) (fun j h => j = i ∧ h.IsTupleIter it t j ∧ h.IsTuple t items) where
  live := fun _ _ st => let ⟨o, ho, _⟩ := st.2.1; ⟨o, ho⟩
  frame := fun _ _ _ st hk => ⟨st.1, st.2.1.at fun o e => hk it (by simp) o e, st.2.2.at fun o e => hk t (by simp) o e⟩
  item := fun j s Q E hj st hQ => absurd st.1 (Nat.ne_of_lt hj)
  done := fun s Q E st hE => wpAny_nextOf_tuple_end hh st.2.1 st.2.2 hi hE
theorem turn_enumT {P : Program} {w : World} {K : PySem.W.Frag} {elts : List Expr} {kk : Nat} {tpos : Pos} (a e it : Addr) :
    Turn P w K (.Tuple elts kk tpos) (Itet K a) [e, it] e (fun i h => (∃ old, IsEnum h e it ((i : Nat) : Int) old) ∧ h.IsTupleIter it a i ∧ e ≠ it) where
  mem := by simp
  obj := fun i h st b hb => by
    obtain ⟨⟨old, he⟩, ⟨o, ho, hc, hd⟩, _⟩ := st
    have e' : b = e ∨ b = it := by simpa using hb
    rcases e' with z | z
    · rw [z]; exact ⟨_, he, fun v q => nomatch q⟩
    · rw [z]; exact ⟨o, ho, fun v q => by rw [hd] at q; cases q⟩
  keep := fun i h h' st k => let ⟨⟨old, he⟩, hi, hne⟩ := st; ⟨⟨old, k e (by simp) _ he⟩, hi.at fun o q => k it (by simp) o q, hne⟩
  item := by
    intro X hP hw hK hc i pins s σ H E I hf st hg
    subst hP hw hK
    obtain ⟨⟨old, he⟩, hit, hne⟩ := st
    obtain ⟨xs, x, hq, hx⟩ := hg
    obtain ⟨its, rv, p, hz⟩ := I.tuple hq
    obtain ⟨u0, hu, ru⟩ := rv.get hx
    have hel : e < s.heap.objs.size := Heap.lt_size he
    have hil : it < s.heap.objs.size := by obtain ⟨_, q, _⟩ := hit; exact Heap.lt_size q
    have hae : a ≠ e := fun z => by
      obtain ⟨o, ho, hc, _⟩ := p
      rw [z] at ho
      have : o = _ := Option.some.inj (ho.symm.trans he)
      rw [this] at hc
      exact absurd (Value.type.inj hc) (by decide)
    have hai : a ≠ it := fun z => by
      obtain ⟨o, ho, hc, _⟩ := p
      obtain ⟨o2, ho2, hc2, _⟩ := hit
      rw [z] at ho
      rw [Option.some.inj (ho.symm.trans ho2), hc2] at hc
      exact absurd (Value.type.inj hc) (by decide)
    have D := Draws.tuple (prog := X.prog) (w := X.w) (A := X.A.in1) (show X.A.in1.handled = none from I.ok.hd hc) it a hai its.toArray
    have hlt : i < its.toArray.size := by
      obtain ⟨h, _⟩ := List.getElem?_eq_some_iff.mp hu
      simpa using h
    refine wpAny_pyNext_enum_itemC D he ⟨hit, p⟩ hlt hne (by simp [hne, Ne.symm hae]) fun y h' tk hy ho hit' hT hsz hk => ?_
    obtain rfl : u0 = y := by
      have : its.toArray[i]? = some u0 := by simpa using hu
      exact Option.some.inj (this.symm.trans hy)
    refine ⟨_, rfl, wpAny_letOwnedTupleGo_enum (s := { s with heap := h', toks := tk + 1 }) ho fun h'' he' sb => ?_⟩
    have hT2 : h''.get? s.heap.objs.size = some { cls := .type "tuple", data := .seq #[.int i tk, u0] } := (sb.2 _ (Nat.ne_of_gt hel)).trans hT
    have new : ObjOk X.prog X.w (L2.upd H s.heap.objs.size (.tup [.int (i : Nat), x])) h'' s.heap.objs.size (.tup [.int (i : Nat), x]) :=
      ⟨by show 2 ≤ sizeLine; decide, [.int i tk, u0], .cons ⟨_, rfl⟩ (.cons ru .nil), ⟨_, hT2, rfl, _, rfl⟩⟩
    have I1 : Inv X pins σ (L2.upd H s.heap.objs.size (.tup [.int (i : Nat), x])) { s with heap := h'', toks := tk + 1 } :=
      I.turnedNew (ch := [e, it]) (fun b ob hb q => (sb.2 b (fun z => hb (by simp [z]))).trans (hk b ob (fun z => hb (by simp [z])) (fun z => hb (by simp [z])) q)) hf (Nat.le_refl _) new
    refine ⟨.ref s.heap.objs.size, _, I1, rfl, ⟨_, x, rfl, I.hok.fresh (Nat.le_refl _), rfl, fun ys hy => ?_⟩, ⟨⟨u0, ?_⟩, hit'.1.at fun o q => (sb.2 it (Ne.symm hne)).trans q, hne⟩, fun b hb => ?_⟩
    · rw [I.tuple_inj hy hq]; exact hx
    · have e1 : ((i + 1 : Nat) : Int) = (i : Int) + 1 := by omega
      rw [e1]; exact he'
    · have hb' : b < s.heap.objs.size := by
        have e' : b = e ∨ b = it := by simpa using hb
        rcases e' with z | z
        · rw [z]; exact hel
        · rw [z]; exact hil
      rw [upd_ne (Nat.ne_of_lt hb')]
      exact (hf b hb).1
  done := by
    intro X hP hw hK hc i pins s σ H E I hf st hg
    subst hP hw hK
    obtain ⟨⟨old, he⟩, hit, hne⟩ := st
    obtain ⟨xs, hq, hx⟩ := hg
    obtain ⟨its, rv, p, hz⟩ := I.tuple hq
    obtain ⟨f0, f1, f2, f3, f4, f5⟩ := hf it (by simp)
    have hl := rv.length
    have hai : a ≠ it := fun z => by
      obtain ⟨o, ho, hc, _⟩ := p
      obtain ⟨o2, ho2, hc2, _⟩ := hit
      rw [z] at ho
      rw [Option.some.inj (ho.symm.trans ho2), hc2] at hc
      exact absurd (Value.type.inj hc) (by decide)
    have D := drawsAtEnd (prog := X.prog) (w := X.w) (A := X.A.in1) (show X.A.in1.handled = none from I.ok.hd hc) it a its.toArray i (by simp; omega)
    exact wpAny_pyNext_enum_endD D he ⟨rfl, hit, p⟩ fun h' eb => ⟨rfl, I.turned (t' := s.toks) (fun b o hb q => eb b o hb q) f0 f1 f3 f4 f5⟩
  self := fun A i s Q E st h => let ⟨⟨_, he⟩, _⟩ := st; wpAny_pyIter_enum he h
def iEnumT (K : PySem.W.Frag) (ta : TA) : TI := fun σ H R => ta σ H fun vs H1 => ∃ a xs, vs = [.ref a] ∧ SqT K H1 a xs ∧ R (Itet K a) H1
theorem pi_enumT {X : Cx} {e : Expr} {ta : TA} {p pos tpos : Pos} {elts : List Expr} {kk : Nat} (hg : Gl X "enumerate") (hm : X.mg "enumerate" = none) (ha : PA X [e] ta) (hs : starEach [e] X.env = [(false, eval e X.env)] := by rfl) :
    PI X (.Tuple elts kk tpos) (.Call (.Name "enumerate" p) [e] [] pos) (iEnumT X.K ta) := by
  refine ⟨fun pins s σ H R I h => ?_⟩
  refine Call_ (ld_blt I hg hm boot_enumerate (PyProof.Rows.callWith_type1 (thn (ha.run pos pins s σ H _ I h) fun us s1 ⟨vs, H1, I1, r1, q1⟩ => ?_) hs rfl))
  obtain ⟨a, xs, ex, hq, q⟩ := q1
  subst ex
  cases r1 with
  | cons r rr =>
    cases rr
    cases r
    obtain ⟨its, rv, p', hz⟩ := I1.tuple hq
    refine call_enumerate_tuple p' fun h' he hit hsz hk => wpAny_pyIter_enum he ?_
    have I2 : Inv X pins σ H1 { s1 with heap := h' } := I1.kept (t' := s1.toks) hk
    refine ⟨s1.heap.objs.size + 1, [s1.heap.objs.size + 1, s1.heap.objs.size], _, _, H1, rfl, I2, turn_enumT a (s1.heap.objs.size + 1) s1.heap.objs.size, ⟨⟨.none, he⟩, hit, Nat.succ_ne_self _⟩, fun b hb => ?_, q⟩
    have e' : b = s1.heap.objs.size + 1 ∨ b = s1.heap.objs.size := by simpa using hb
    have hle : s1.heap.objs.size ≤ b := by
      rcases e' with z | z
      · rw [z]; exact Nat.le_add_right _ _
      · rw [z]; exact Nat.le_refl _
    exact I1.fpOk hle (I1.hok.fresh hle)
theorem walk_enumT {K : PySem.W.Frag} {a : Addr} {xs : List V} : Walk (Itet K a) xs.length (fun H => SqT K H a xs) (fun i H v H' => ∃ T x, v = .ref T ∧ H T = none ∧ H' = L2.upd H T (.tup [.int (i : Nat), x]) ∧ xs[i]? = some x) :=
  ⟨fun i H hi h => ⟨xs, _, h, List.getElem?_eq_getElem hi⟩, fun H h => ⟨xs, h, Nat.le_refl _⟩, fun i H v H' hi h y => by obtain ⟨T, x, h1, h2, h3, h4⟩ := y; exact ⟨T, x, h1, h2, h3, h4 xs h⟩⟩
/-- a list or a tuple -/
def Sq (K : PySem.W.Frag) (H : Hp) (a : Addr) (xs : List V) : Prop := SqL K H a xs ∨ SqT K H a xs
def GSq (K : PySem.W.Frag) (H1 : Hp) (a : Addr) (xs : List V) (H : Hp) : Prop := (SqL K H1 a xs → SqL K H a xs) ∧ (SqT K H1 a xs → SqT K H a xs)
theorem GSq.kl {K : PySem.W.Frag} {H1 H : Hp} {a : Addr} {xs : List V} (k : Kl H1 H) : GSq K H1 a xs H := ⟨fun h => k.seq h, fun h => k.seqT h⟩
theorem GSq.same {K : PySem.W.Frag} {H1 H : Hp} {a : Addr} {xs : List V} (s : Same H1 H) : GSq K H1 a xs H := .kl (.same s)
theorem Sq.kl {K : PySem.W.Frag} {H1 H : Hp} {a : Addr} {xs : List V} (h : Sq K H1 a xs) (k : Kl H1 H) : Sq K H a xs := h.imp (fun h => k.seq h) (fun h => k.seqT h)
theorem Sq.same {K : PySem.W.Frag} {H1 H : Hp} {a : Addr} {xs : List V} (h : Sq K H1 a xs) (s : Same H1 H) : Sq K H a xs := h.kl (.same s)
theorem Sq.len {K : PySem.W.Frag} {H : Hp} {a : Addr} {xs : List V} (h : Sq K H a xs) : LenV K (.ref a) H xs.length := h.elim (fun h => Or.inl ⟨_, h, rfl⟩) (fun h => Or.inr ⟨_, h, rfl⟩)
def iSeq (K : PySem.W.Frag) (tl : TE) : TI := fun σ H R => tl σ H fun x H1 => ∃ a xs, x = .ref a ∧ Sq K H1 a xs ∧ ∀ J, Walk J xs.length (GSq K H1 a xs) (YAt xs) → R J H1
theorem pi_seq {X : Cx} {K : PySem.W.Frag} {tg l : Expr} {tl : TE} (hK : X.K = K) (hl : PE X l tl) : PI X tg l (iSeq K tl) := by
  subst hK
  refine ⟨fun pins s σ H R I h => ?_⟩
  refine thn (hl.run pins s σ H _ I h) fun v s1 ⟨x, H1, I1, r1, q1⟩ => ?_
  obtain ⟨a, xs, e, hq, q⟩ := q1
  subst e
  cases r1
  rcases hq with hq | hq
  · obtain ⟨its, rv, p, hz⟩ := I1.list hq
    refine wpAny_pyIter_list p.isList ?_
    refine ⟨s1.heap.objs.size, [s1.heap.objs.size], _, _, H1, rfl, I1.kept (t' := s1.toks) fun b o e => Heap.get?_push_of_some _ e, turn_list a _, ⟨_, Heap.get?_push_size _ rfl, rfl, rfl⟩, fun b hb => ?_, q _ (walk_list.mono (fun H g => g.1 hq) fun _ _ _ _ _ _ y => y)⟩
    have e : b = s1.heap.objs.size := by simpa using hb
    subst e
    exact I1.fpOk (Nat.le_refl _) (I1.hok.fresh (Nat.le_refl _))
  · obtain ⟨its, rv, p, hz⟩ := I1.tuple hq
    refine wpAny_pyIter_tuple (show s1.heap.IsTuple a its.toArray from p) ?_
    refine ⟨s1.heap.objs.size, [s1.heap.objs.size], _, _, H1, rfl, I1.kept (t' := s1.toks) fun b o e => Heap.get?_push_of_some _ e, turn_tuple a _, ⟨_, Heap.get?_push_size _ rfl, rfl, rfl⟩, fun b hb => ?_, q _ (walk_tup.mono (fun H g => g.2 hq) fun _ _ _ _ _ _ y => y)⟩
    have e : b = s1.heap.objs.size := by simpa using hb
    subst e
    exact I1.fpOk (Nat.le_refl _) (I1.hok.fresh (Nat.le_refl _))
def iEnumX (K : PySem.W.Frag) (ta : TA) : TI := fun σ H R => ta σ H fun vs H1 => ∃ a xs, vs = [.ref a] ∧ Sq K H1 a xs ∧ ∀ J, Walk J xs.length (GSq K H1 a xs) (fun i H v H' => ∃ T x, v = .ref T ∧ H T = none ∧ H' = L2.upd H T (.tup [.int (i : Nat), x]) ∧ xs[i]? = some x) → R J H1
theorem pi_enumX {X : Cx} {e : Expr} {ta : TA} {p pos tpos : Pos} {elts : List Expr} {kk : Nat} (hg : Gl X "enumerate") (hm : X.mg "enumerate" = none) (ha : PA X [e] ta) (hs : starEach [e] X.env = [(false, eval e X.env)] := by rfl) :
    PI X (.Tuple elts kk tpos) (.Call (.Name "enumerate" p) [e] [] pos) (iEnumX X.K ta) := by
  refine ⟨fun pins s σ H R I h => ?_⟩
  refine Call_ (ld_blt I hg hm boot_enumerate (PyProof.Rows.callWith_type1 (thn (ha.run pos pins s σ H _ I h) fun us s1 ⟨vs, H1, I1, r1, q1⟩ => ?_) hs rfl))
  obtain ⟨a, xs, ex, hq, q⟩ := q1
  subst ex
  cases r1 with
  | cons r rr =>
    cases rr
    cases r
    rcases hq with hq | hq
    · obtain ⟨its, rv, p', hz⟩ := I1.list hq
      refine call_enumerate_list p'.isList fun h' he hit hsz hk => wpAny_pyIter_enum he ?_
      have I2 : Inv X pins σ H1 { s1 with heap := h' } := I1.kept (t' := s1.toks) hk
      refine ⟨s1.heap.objs.size + 1, [s1.heap.objs.size + 1, s1.heap.objs.size], _, _, H1, rfl, I2, turn_enum a (s1.heap.objs.size + 1) s1.heap.objs.size, ⟨⟨.none, he⟩, hit, Nat.succ_ne_self _⟩, fun b hb => ?_, q _ (walk_enum.mono (fun H g => g.1 hq) fun i H v H' _ _ y => ?_)⟩
      · have e' : b = s1.heap.objs.size + 1 ∨ b = s1.heap.objs.size := by simpa using hb
        have hle : s1.heap.objs.size ≤ b := by
          rcases e' with z | z
          · rw [z]; exact Nat.le_add_right _ _
          · rw [z]; exact Nat.le_refl _
        exact I1.fpOk hle (I1.hok.fresh hle)
      · obtain ⟨T, x, y', h1, h2, h3, h4, h5⟩ := y
        obtain rfl : V.int i = x := Option.some.inj h4
        exact ⟨T, y', h1, h2, h3, h5⟩
    · obtain ⟨its, rv, p', hz⟩ := I1.tuple hq
      refine call_enumerate_tuple p' fun h' he hit hsz hk => wpAny_pyIter_enum he ?_
      have I2 : Inv X pins σ H1 { s1 with heap := h' } := I1.kept (t' := s1.toks) hk
      refine ⟨s1.heap.objs.size + 1, [s1.heap.objs.size + 1, s1.heap.objs.size], _, _, H1, rfl, I2, turn_enumT a (s1.heap.objs.size + 1) s1.heap.objs.size, ⟨⟨.none, he⟩, hit, Nat.succ_ne_self _⟩, fun b hb => ?_, q _ (walk_enumT.mono (fun H g => g.2 hq) fun i H v H' _ _ y => y)⟩
      have e' : b = s1.heap.objs.size + 1 ∨ b = s1.heap.objs.size := by simpa using hb
      have hle : s1.heap.objs.size ≤ b := by
        rcases e' with z | z
        · rw [z]; exact Nat.le_add_right _ _
        · rw [z]; exact Nat.le_refl _
      exact I1.fpOk hle (I1.hok.fresh hle)
/-- rows of states, as lists or as tuples -/
def Rws (K : PySem.W.Frag) (H : Hp) (R : V) (rs : List Row) : Prop := Dp K H R (rowsD rs) ∨ Dp K H R (rowsT rs)
def Ens (K : PySem.W.Frag) (H : Hp) (E : V) (es : List Int) : Prop := Dp K H E (intsD es) ∨ Dp K H E (intsT es)
theorem Rws.mv {K : PySem.W.Frag} {H H' : Hp} {R : V} {rs : List Row} (h : Rws K H R rs) (k : Kl H H') : Rws K H' R rs := h.imp (fun h => h.mv k) (fun h => h.mv k)
theorem Ens.mv {K : PySem.W.Frag} {H H' : Hp} {R : V} {rs : List Int} (h : Ens K H R rs) (k : Kl H H') : Ens K H' R rs := h.imp (fun h => h.mv k) (fun h => h.mv k)
theorem Ens.at {K : PySem.W.Frag} {H : Hp} {E : V} {es : List Int} (h : Ens K H E es) : ∃ e, E = .ref e ∧ Sq K H e (es.map V.int) := by
  rcases h with h | h
  · obtain ⟨e, ys, rfl, h1, h2⟩ := h.listE
    obtain rfl := dpAll_intsE h2
    exact ⟨e, rfl, Or.inl h1⟩
  · obtain ⟨e, ys, rfl, h1, h2⟩ := h.tupE
    obtain rfl := dpAll_intsE h2
    exact ⟨e, rfl, Or.inr h1⟩
theorem Rws.at {K : PySem.W.Frag} {H : Hp} {R : V} {rs : List Row} (h : Rws K H R rs) : ∃ r xs, R = .ref r ∧ Sq K H r xs ∧ xs.length = rs.length ∧
    ∀ (i : Nat) (hi : i < rs.length) (x : V), xs[i]? = some x → ∃ w ts, x = .ref w ∧ Sq K H w ts ∧ DpAll K H ts (rs[i].map tupD) := by
  rcases h with h | h
  · obtain ⟨r, xs, rfl, h1, h2⟩ := h.listE
    refine ⟨r, xs, rfl, Or.inl h1, by rw [h2.length, List.length_map], fun i hi x hx => ?_⟩
    obtain ⟨v, hv, hrow⟩ := h2.get (i := i) (d := rowD rs[i]) (by rw [List.getElem?_map, List.getElem?_eq_getElem hi]; rfl)
    obtain rfl : x = v := Option.some.inj (hx.symm.trans hv)
    obtain ⟨w, ts, rfl, hw1, hw2⟩ := hrow.listE
    exact ⟨w, ts, rfl, Or.inl hw1, hw2⟩
  · obtain ⟨r, xs, rfl, h1, h2⟩ := h.tupE
    refine ⟨r, xs, rfl, Or.inr h1, by rw [h2.length, List.length_map], fun i hi x hx => ?_⟩
    obtain ⟨v, hv, hrow⟩ := h2.get (i := i) (d := rowT rs[i]) (by rw [List.getElem?_map, List.getElem?_eq_getElem hi]; rfl)
    obtain rfl : x = v := Option.some.inj (hx.symm.trans hv)
    obtain ⟨w, ts, rfl, hw1, hw2⟩ := hrow.tupE
    exact ⟨w, ts, rfl, Or.inr hw1, hw2⟩
theorem tup_at {K : PySem.W.Frag} {H : Hp} {ts : List V} {r : Row} (h : DpAll K H ts (r.map tupD)) {j : Nat} {x : V} (hx : ts[j]? = some x) : ∃ (t : Addr) (hj : j < r.length), x = .ref t ∧ SqT K H t [.int (r[j]).1, .int (r[j]).2] := by
  obtain ⟨hj, _⟩ := List.getElem?_eq_some_iff.mp hx
  have hj' : j < r.length := by have := h.length; rw [List.length_map] at this; omega
  obtain ⟨v, hv, hb⟩ := h.get (i := j) (d := tupD r[j]) (by rw [List.getElem?_map, List.getElem?_eq_getElem hj']; rfl)
  obtain rfl : x = v := Option.some.inj (hx.symm.trans hv)
  obtain ⟨t, us, rfl, ht1, ht2⟩ := hb.tupE
  cases ht2 with
  | cons hA hB =>
    obtain rfl := hA.intE
    cases hB with
    | cons hB hC =>
      obtain rfl := hB.intE
      cases hC
      exact ⟨t, hj', rfl, ht1⟩
end Vf
set_option Elab.async false
set_option linter.all false
set_option maxRecDepth 100000
set_option maxHeartbeats 4000000
/-! own errors: made by an own __init__ over a plain own base; methods that may raise -/
namespace Vf
open PySem L2 PyProof.Rows PySem.Calls
def tMethV (C : Addr) (m : Str) (sp : Sp) (E : L2.St → XK) (ta : TE) (t : TA) : TE := fun σ H Q => ta σ H fun x H1 => ∃ a dx fs, x = .ref a ∧ H1 a = some (.ins C dx fs) ∧ fs.lookup m = none ∧ t σ H1 fun vs H2 => sp (x :: vs) H2 Q (E σ)
section
variable {X : Cx} {CX : CXT} {k : Nat} {f C : Addr} {fd : FuncData} {ps : List Str} {sp : Sp} {E : L2.St → XK} {x m : Str} {p pos apos : Pos} {e o : Expr} {es : List Expr} {ta : TE} {t : TA}
theorem pe_methV {pl : Sem Bool} (he : PE X o ta) (c : Cls X.K C) (hm : Meth X.K C m f) (F : FnOk X.prog X.w X.K X.mg X.base CX k f fd ps sp) (hr : Room k X.A) (hb : L2.Binds X.K fd ps []) (hx : ∀ σ, PassesAt CX X σ (E σ)) (ha : PA X (e :: es) t)
    (hst : starEach (e :: es) X.env = (false, eval e X.env) :: starEach es X.env := by rfl) (hpl : (backTo pos (starEach es X.env)).any (·.1) = false := by rfl)
    (ht : eval (.Call (.Attribute o m apos) (e :: es) [] pos) X.env = (do
      let ov ← eval o X.env
      standAt apos.atName
      let (f, first) ← holding [ov] (getMethod ov m pl)
      callWith pos f first (backTo pos (starEach (e :: es) X.env)) (backToKw pos (keywordEach [] X.env))) := by rfl) :
    PE X (.Call (.Attribute o m apos) (e :: es) [] pos) (tMethV C m sp E ta t) := by
  refine ⟨fun pins s σ H Q I h => ?_⟩
  refine PySem.W.methodCall_KW (pl := pl) (thn (he.run pins s σ H _ I h) fun u s1 ⟨x, H1, I1, rx, a, dx, fs, ex, ea, l, q⟩ => ?_) ht
  subst ex
  obtain rfl : u = Value.ref a := rx
  refine getmeth_ok I1 ea c hm l ?_
  refine PySem.W.callWith_K (first := [.ref a]) (h₀ := X.base) I.ok.mod.kin hm.kp (thn (ha.run pos pins s1 σ H1 _ I1 q) fun us s2 ⟨vs, H2, I2, r, q2⟩ => ⟨I2.kIn, ?_⟩) hst hpl
  exact run_fnS (us := .ref a :: us) (vs := .ref a :: vs) F hr hb (hx σ) I2 (.cons rfl r) q2
end
/-- what the top says of the plain base at B, asked for __init__ -/
structure BaseT (K : PySem.W.Frag) (mg : Str → Option Value) (x : Str) (B : Addr) : Prop where
  g : mg x = some (.ref B)
  s : PySem.W.specialIn K (.ref B) "__getattribute__" = some (some (.builtin "type.__getattribute__"))
  r : PySem.W.readsIn K B (.type "type") = true
  v : PySem.W.findCls K (.ref B) (.type "type") "__init__" = some (.val (.builtin "ValueError.__init__"))
section
variable {X : Cx} {e : Expr} {es : List Expr} {ta : TA} {x : Str} {p1 p2 pos : Pos} {B : Addr}
theorem pe_clsinit {pl : Sem Bool} (T : BaseT X.K X.mg x B) (hg : Gl X x) (ha : PA X (e :: es) ta) (hdb : (x == ("__debug__" : Str)) = false := by decide)
    (hc : eval (.Call (.Attribute (.Name x p1) "__init__" p2) (e :: es) [] pos) X.env = (do
      let ov ← eval (.Name x p1) X.env
      standAt p2.atName
      let (f, first) ← holding [ov] (getMethod ov "__init__" pl)
      callWith pos f first (backTo pos (starEach (e :: es) X.env)) (backToKw pos (keywordEach [] X.env))) := by rfl)
    (he : starEach (e :: es) X.env = (false, eval e X.env) :: starEach es X.env := by rfl) (hpl : (backTo pos (starEach es X.env)).any (·.1) = false := by rfl) :
    PE X (.Call (.Attribute (.Name x p1) "__init__" p2) (e :: es) [] pos) (tVeI X.K ta) := by
  refine ⟨fun pins s σ H Q I h => ?_⟩
  refine PySem.W.methodCall_KW (ld_glob I hg T.g ?_ hdb) hc
  refine PySem.W.method_cls I.kIn T.s (PySem.W.cls_value (mc := .type "type") I.kIn T.r T.v (by decide +kernel) ?_)
  show wpAny _ _ (callWith pos (Value.builtin "ValueError.__init__") [] (backTo pos (starEach (e :: es) X.env)) []) _ _ _
  refine PyProof.Rows.callWith_method1 (thn (ha.run pos pins _ σ H _ (I.tok _) h) fun us s1 ⟨vs, H1, I1, r1, a, C, ws, ev, hl, T, ea, q⟩ => ?_) he hpl
  subst ev
  cases r1 with
  | @cons _ u0 _ ur ra rw' =>
    obtain rfl : u0 = Value.ref a := ra
    have hlen : ur.length ≤ sizeLine := by
      rw [← Paired.length rw', sizeLine_eq]
      omega
    exact oinit_ok T I1 ea hlen fun s' J => ⟨.non, H1, J, rfl, q⟩
end
/-- what the top says of an own error at C over the base, with the __init__ at fI that keeps one field -/
structure ErrT (K : PySem.W.Frag) (mg : Str → Option Value) (x f : Str) (C fI : Addr) : Prop where
  oex : OexC K C
  g : mg x = some (.ref C)
  iC : PySem.W.findIn K (.ref C) "__init__" = some (some (.ref fI))
  tI : PySem.W.typeIn K (.ref fI) = some (.type "function")
  nf : PySem.W.findIn K (.ref C) f = some none
  xf : XfC K C
/-- the promise of such an __init__ -/
def spErr (C : Addr) (f : Str) : Sp := fun vs H Q _ => ∃ (a : Addr) (v : V), vs = [.ref a, v] ∧ H a = some (exo a C none) ∧ ∀ d, H d = none → d ≠ a → Q .non (L2.upd (L2.upd H d (exd d [(f, v)])) a (exo a C (some d)))
/-- what raise X(v) leaves -/
def Raised (H H' : Hp) (d : Addr) (f : Str) (v : V) : Prop := H d = none ∧ H' d = some (.xd [(f, v)]) ∧ Same H H'
theorem raised_of {H : Hp} {a d C : Addr} {f : Str} {v : V} (ha : H a = none) (hd : H d = none) (hda : d ≠ a) :
    Raised H (L2.upd (L2.del (L2.upd (L2.upd (L2.upd H a (exo a C none)) d (exd d [(f, v)])) a (exo a C (some d))) a) d (.xd [(f, v)])) d f v := by
  refine ⟨hd, upd_same, fun b o e => ?_⟩
  have h1 : b ≠ a := ne_of_none e ha
  have h2 : b ≠ d := ne_of_none e hd
  rw [upd_ne h2, del_ne h1, upd_ne h1, upd_ne h2, upd_ne h1]
  exact e
theorem idx_lt' {z : List Nat} {c : Nat} (h : c ∈ z) : z.idxOf c < z.length := List.idxOf_lt_length_iff.mpr h
theorem at_sg {z : Str} {c i : Nat} : StrLaws.At z (sg c) z.length i ↔ (TL.tl z)[i]? = some c := by
  rw [TL.at_iff (by rw [sg_tl]; simp) i, sg_tl]
  rw [← List.head?_drop]
  cases h : (TL.tl z).drop i with
  | nil => exact ⟨fun h => absurd h (by show ¬ (([] : List Nat) == [c]) = true; exact Bool.false_ne_true), fun h => absurd h (by simp)⟩
  | cons a r =>
    constructor
    · intro h
      have h2 : [a] = [c] := eq_of_beq h
      exact congrArg some (List.cons.inj h2).1
    · intro h
      have h2 : a = c := Option.some.inj h
      subst h2
      exact beq_self_eq_true [a]
theorem occ_sg {z : Str} {c : Nat} (h : c ∈ TL.tl z) : ∃ r, Builtin.Str.occurrences z (sg c) 0 z.length 1 = (TL.tl z).idxOf c :: r := by
  have hlt := idx_lt' h
  have hget : (TL.tl z)[(TL.tl z).idxOf c]? = some c := by
    rw [List.getElem?_eq_getElem hlt]
    simp
  rcases StrLaws.occ_head z (sg c) 1 (Nat.le_refl 1) with ⟨h0, hn⟩ | ⟨i, r, h0, hi, hn⟩
  · exact absurd (at_sg.mpr hget) (hn _)
  · rw [at_sg] at hi
    have e : i = (TL.tl z).idxOf c := by
      rcases Nat.lt_trichotomy i ((TL.tl z).idxOf c) with q | q | q
      · exfalso
        have := List.not_of_lt_findIdx (p := (· == c)) (xs := TL.tl z) q
        obtain ⟨hl, he⟩ := List.getElem?_eq_some_iff.mp hi
        simp [he] at this
      · exact q
      · exact absurd (at_sg.mpr hget) (hn _ q)
    exact ⟨r, by rw [h0, e]⟩
theorem find_sg {z : Str} {c : Nat} (h : c ∈ TL.tl z) : Txt.find z (sg c) = ((TL.tl z).idxOf c : Int) := by
  obtain ⟨r, e⟩ := occ_sg h
  unfold Txt.find
  rw [e]
end Vf
set_option Elab.async false
set_option linter.all false
set_option maxRecDepth 100000
set_option maxHeartbeats 4000000
/-! functions as values: made in one def, handed to another, called there -/
namespace Vf
open PySem L2 PyProof.Rows NdefX LamX
/-- the cell at c, told to the last bit -/
def CellX (c : Addr) (o : Obj) : HO := .ext fun h => h.get? c = some o
abbrev Cs := List (Addr × Obj)
def hid (cs : Cs) (H : Hp) : Hp := fun b => if (cs.lookup b).isSome then none else H b
def shw (cs : Cs) (H : Hp) : Hp := fun b => match cs.lookup b with | some o => some (CellX b o) | none => H b
def HeldC (cs : Cs) (H : Hp) : Prop := ∀ c o, cs.lookup c = some o → H c = some (CellX c o)
section
variable {cs : Cs} {H H' : Hp} {b c : Addr} {o : Obj} {u : HO}
theorem hid_in (h : cs.lookup c = some o) : hid cs H c = none := by unfold hid; rw [h]; rfl
theorem hid_out (h : cs.lookup c = none) : hid cs H c = H c := by unfold hid; rw [h]; rfl
theorem shw_in (h : cs.lookup c = some o) : shw cs H c = some (CellX c o) := by unfold shw; rw [h]
theorem shw_out (h : cs.lookup c = none) : shw cs H c = H c := by unfold shw; rw [h]
theorem hid_some (e : hid cs H b = some u) : cs.lookup b = none ∧ H b = some u := by
  cases q : cs.lookup b with
  | some x => rw [hid_in q] at e; cases e
  | none => rw [hid_out q] at e; exact ⟨rfl, e⟩
theorem HeldC.out (hc : HeldC cs H) (e : H b = some u) (n : ∀ x, u ≠ CellX b x) : cs.lookup b = none := by
  cases q : cs.lookup b with
  | some x => rw [hc b x q] at e; exact absurd (Option.some.inj e).symm (n x)
  | none => rfl
theorem HeldC.out0 (hc : HeldC cs H) (e : H b = none) : cs.lookup b = none := by
  cases q : cs.lookup b with
  | some x => rw [hc b x q] at e; cases e
  | none => rfl
theorem held_shw : HeldC cs (shw cs H) := fun _ _ e => shw_in e
end
section
variable {P : Program} {w : World} {cs : Cs} {H H' : Hp} {h h' B : Heap} {fs : List Addr}
theorem hok_hid (ok : HOk P w H h) (hc : HeldC cs H) : HOk P w (hid cs H) h := fun b u e => by
  obtain ⟨q, e1⟩ := hid_some e
  refine (ok b u e1).stay (fun _ _ _ z => z) (fun x z => ?_) fun x xs z => ?_
  · rw [hid_out (hc.out z fun y hy => by cases hy)]; exact z
  · rw [hid_out (hc.out z fun y hy => by cases hy)]; exact z
theorem hok_shw (ok : HOk P w H h) (hn : ∀ c o, cs.lookup c = some o → H c = none ∧ h.get? c = some o) : HOk P w (shw cs H) h := fun b u e => by
  have out : ∀ x v, H x = some v → shw cs H x = some v := fun x v z => by
    cases q : cs.lookup x with
    | some y => rw [(hn x y q).1] at z; cases z
    | none => rw [shw_out q]; exact z
  cases q : cs.lookup b with
  | some y =>
    rw [shw_in q] at e
    cases e
    have hb := (hn b y q).2
    exact ⟨hb, ⟨_, hb⟩, fun h1 h2 a st => st _ a⟩
  | none =>
    rw [shw_out q] at e
    exact (ok b u e).stay (fun _ _ _ z => z) (fun x z => out _ _ z) fun x xs z => out _ _ z
theorem cell_at (ok : HOk P w H h) (hc : HeldC cs H) {c : Addr} {o : Obj} (e : cs.lookup c = some o) : h.get? c = some o := (ok c _ (hc c o e)).1
/-- behind a call made with the cells hidden -/
theorem un_shw (ok : HOk P w H h) (hc : HeldC cs H) (hf : ∀ c o, cs.lookup c = some o → c ∉ fs) (u : Un fs [] (hid cs H) H' h h') (ok' : HOk P w H' h') :
    Un fs [] H (shw cs H') h h' ∧ HOk P w (shw cs H') h' ∧ ∀ c o, cs.lookup c = some o → H' c = none := by
  have cell : ∀ c o, cs.lookup c = some o → H' c = none ∧ h'.get? c = some o := fun c o e =>
    ⟨u.free c o (cell_at ok hc e) (hid_in e) (by simp), u.keep c o (cell_at ok hc e) (hid_in e) (hf c o e) (by simp)⟩
  refine ⟨⟨fun b o e n hb hx => ?_, fun b o e n hb hx => ?_, fun b o e n hx => ?_, u.there, fun b xs e => ?_, fun b o v e => ?_, fun b ps e => ?_⟩, hok_shw ok' cell, fun c o e => (cell c o e).1⟩
  · exact u.keep b o e (by rw [hid_out (hc.out0 n)]; exact n) hb hx
  · exact u.slot b o e (by rw [hid_out (hc.out0 n)]; exact n) hb hx
  · rw [shw_out (hc.out0 n)]
    exact u.free b o e (by rw [hid_out (hc.out0 n)]; exact n) hx
  · have q := hc.out e fun y hy => by cases hy
    rw [shw_out q]; exact u.tups b xs (by rw [hid_out q]; exact e)
  · have q := hc.out e fun y hy => by cases hy
    rw [shw_out q]; exact u.frzs b o v (by rw [hid_out q]; exact e)
  · have q := hc.out e fun y hy => by cases hy
    rw [shw_out q]; exact u.tbls b ps (by rw [hid_out q]; exact e)
theorem ub_shw (ok : HOk P w H h) (hc : HeldC cs H) (hf : ∀ c o, cs.lookup c = some o → c ∉ fs) (u : UB fs (hid cs H) H' h B h') (ok' : HOk P w H' B) :
    UB fs H (shw cs H') h B h' ∧ HOk P w (shw cs H') B ∧ ∀ c o, cs.lookup c = some o → H' c = none ∧ B.get? c = some o := by
  have cell : ∀ c o, cs.lookup c = some o → H' c = none ∧ B.get? c = some o := fun c o e =>
    ⟨u.free c o (cell_at ok hc e) (hid_in e), u.keep c o (cell_at ok hc e) (hid_in e) (hf c o e)⟩
  refine ⟨⟨fun b o e n hb => ?_, u.slot, fun b o e n => ?_, u.there, fun b xs e => ?_, fun b o v e => ?_, fun b ps e => ?_⟩, hok_shw ok' cell, cell⟩
  · exact u.keep b o e (by rw [hid_out (hc.out0 n)]; exact n) hb
  · rw [shw_out (hc.out0 n)]
    exact u.free b o e (by rw [hid_out (hc.out0 n)]; exact n)
  · have q := hc.out e fun y hy => by cases hy
    rw [shw_out q]; exact u.tups b xs (by rw [hid_out q]; exact e)
  · have q := hc.out e fun y hy => by cases hy
    rw [shw_out q]; exact u.frzs b o v (by rw [hid_out q]; exact e)
  · have q := hc.out e fun y hy => by cases hy
    rw [shw_out q]; exact u.tbls b ps (by rw [hid_out q]; exact e)
/-- behind a call made with the cells shown -/
theorem un_hid (hn : ∀ c o, cs.lookup c = some o → H c = none ∧ h.get? c = some o ∧ c ∉ fs) (u : Un fs [] (shw cs H) H' h h') (ok' : HOk P w H' h') (hc : HeldC cs H') :
    Un fs [] H (hid cs H') h h' ∧ HOk P w (hid cs H') h' := by
  have out : ∀ b v, H b = some v → cs.lookup b = none := fun b v e => by
    cases q : cs.lookup b with
    | some y => rw [(hn b y q).1] at e; cases e
    | none => rfl
  refine ⟨⟨fun b o e n hb hx => ?_, fun b o e n hb hx => ?_, fun b o e n hx => ?_, u.there, fun b xs e => ?_, fun b o v e => ?_, fun b ps e => ?_⟩, hok_hid ok' hc⟩
  · cases q : cs.lookup b with
    | some y =>
      have e1 := (hn b y q).2.1
      rw [e] at e1; cases e1
      exact cell_at ok' hc q
    | none => exact u.keep b o e (by rw [shw_out q]; exact n) hb hx
  · cases q : cs.lookup b with
    | some y => exact absurd hb (hn b y q).2.2
    | none => exact u.slot b o e (by rw [shw_out q]; exact n) hb hx
  · cases q : cs.lookup b with
    | some y => exact hid_in q
    | none =>
      rw [hid_out q]
      exact u.free b o e (by rw [shw_out q]; exact n) hx
  · have q := out _ _ e
    rw [hid_out q]; exact u.tups b xs (by rw [shw_out q]; exact e)
  · have q := out _ _ e
    rw [hid_out q]; exact u.frzs b o v (by rw [shw_out q]; exact e)
  · have q := out _ _ e
    rw [hid_out q]; exact u.tbls b ps (by rw [shw_out q]; exact e)
theorem ub_hid (hn : ∀ c o, cs.lookup c = some o → H c = none ∧ h.get? c = some o ∧ c ∉ fs) (u : UB fs (shw cs H) H' h B h') (ok' : HOk P w H' B) (hc : HeldC cs H') :
    UB fs H (hid cs H') h B h' ∧ HOk P w (hid cs H') B := by
  have out : ∀ b v, H b = some v → cs.lookup b = none := fun b v e => by
    cases q : cs.lookup b with
    | some y => rw [(hn b y q).1] at e; cases e
    | none => rfl
  refine ⟨⟨fun b o e n hb => ?_, u.slot, fun b o e n => ?_, u.there, fun b xs e => ?_, fun b o v e => ?_, fun b ps e => ?_⟩, hok_hid ok' hc⟩
  · cases q : cs.lookup b with
    | some y =>
      have e1 := (hn b y q).2.1
      rw [e] at e1; cases e1
      exact cell_at ok' hc q
    | none => exact u.keep b o e (by rw [shw_out q]; exact n) hb
  · cases q : cs.lookup b with
    | some y => exact hid_in q
    | none =>
      rw [hid_out q]
      exact u.free b o e (by rw [shw_out q]; exact n)
  · have q := out _ _ e
    rw [hid_out q]; exact u.tups b xs (by rw [shw_out q]; exact e)
  · have q := out _ _ e
    rw [hid_out q]; exact u.frzs b o v (by rw [shw_out q]; exact e)
  · have q := out _ _ e
    rw [hid_out q]; exact u.tbls b ps (by rw [shw_out q]; exact e)
end
/-! what is raised -/
structure CxOk (P : Program) (w : World) (CX : CXT) : Prop where
  shw : ∀ (outer : List Env) (cs : Cs) (H : Hp) (s : Shared) (E : XK) (u : Value) (s' : Shared), HOk P w H s.heap → HeldC cs H → (∀ c o, cs.lookup c = some o → c ∉ frs outer) →
    CX outer (hid cs H) s (fun cl d H2 => (∀ c o, cs.lookup c = some o → H2 c = none) → E cl d (Vf.shw cs H2)) u s' → CX outer H s E u s'
  hid : ∀ (outer : List Env) (cs : Cs) (H : Hp) (s : Shared) (E : XK) (u : Value) (s' : Shared), (∀ c o, cs.lookup c = some o → H c = none ∧ s.heap.get? c = some o ∧ c ∉ frs outer) →
    CX outer (Vf.shw cs H) s (fun cl d H2 => HeldC cs H2 ∧ E cl d (Vf.hid cs H2)) u s' → CX outer H s E u s'
theorem cxok0 {P : Program} {w : World} : CxOk P w CX0 := ⟨fun _ _ _ _ _ _ _ _ _ _ z => z.elim, fun _ _ _ _ _ _ _ _ z => z.elim⟩
theorem cxok {P : Program} {w : World} : CxOk P w (L2.CX P w) := by
  refine ⟨fun outer cs H s E u s' ok hc hf z => ?_, fun outer cs H s E u s' hn z => ?_⟩
  · obtain ⟨a, B, H', cls, d, e, fl, ok', ub, na, os, ag, hE⟩ := z
    obtain ⟨u1, k1, hB⟩ := ub_shw ok hc hf ub ok'
    refine ⟨a, B, _, cls, d, e, fl, k1, u1, ?_, os, ag, hE fun c o e => (hB c o e).1⟩
    cases q : cs.lookup a with
    | some y =>
      have z2 := fl.2.1
      rw [(hB a y q).2] at z2; cases z2
    | none => rw [shw_out q]; exact na
  · obtain ⟨a, B, H', cls, d, e, fl, ok', ub, na, os, ag, hc, hE⟩ := z
    obtain ⟨u1, k1⟩ := ub_hid hn ub ok' hc
    refine ⟨a, B, _, cls, d, e, fl, k1, u1, ?_, os, ag, hE⟩
    cases q : cs.lookup a with
    | some y => exact hid_in q
    | none => rw [hid_out q]; exact na
/-! a function by its address: whenever S holds of the heap, a call of it keeps the promise -/
structure FV (P : Program) (w : World) (K : PySem.W.Frag) (mg : Str → Option Value) (base : Heap) (CX : CXT) (k : Nat) (f : Addr) (S : Hp → Prop) (sp : Sp) : Prop where
  fn : ∀ H h, K.In h → HOk P w H h → S H → PySem.W.FnAt f h
  run : ∀ (A : Around) (outer : List Env) (s : Shared) (H : Hp) (us : List Value) (vs : List V) (Q : VK) (E : XK), Room k A → Env0 P w K mg base A outer s H → S H → Vals vs us → sp vs H Q E →
    codeAny (model P w) A (.call (.ref f) ⟨us, []⟩) (CR CX outer P w H s Q E) s
section
variable {P : Program} {w : World} {K : PySem.W.Frag} {mg : Str → Option Value} {base : Heap} {CX : CXT} {k j : Nat} {f : Addr} {S S' : Hp → Prop} {sp sp' : Sp}
theorem FV.mono (F : FV P w K mg base CX j f S sp) (h : j ≤ k) : FV P w K mg base CX k f S sp := ⟨F.fn, fun A outer s H us vs Q E hr => F.run A outer s H us vs Q E (hr.mono h)⟩
theorem FV.imp (F : FV P w K mg base CX k f S sp) (hS : ∀ H, S' H → S H) (h : ∀ vs H Q E, S' H → sp' vs H Q E → sp vs H Q E) : FV P w K mg base CX k f S' sp' :=
  ⟨fun H h ki ok q => F.fn H h ki ok (hS H q), fun A outer s H us vs Q E hr e q r z => F.run A outer s H us vs Q E hr e (hS H q) r (h vs H Q E q z)⟩
/-- a def of the module's top as a value -/
theorem fv_of_fun {x qual : Str} {stt : Stmt} {fd : FuncData} {ps : List Str} (Fu : Fun K x qual stt f fd) (F : FnOk P w K mg base CX k f fd ps sp) (hb : Binds K fd ps []) : FV P w K mg base CX k f (fun _ => True) sp :=
  ⟨fun H h ki ok q => by
    obtain ⟨oc, od, kV, doc, pm, an, cdv, ct, osl, rfl, lk, hcd⟩ := Fu.ex
    exact ⟨_, _, _, _, ki _ _ lk⟩, fun A outer s H us vs Q E hr e q r z => by
    have l : us.length = ps.length := by rw [← r.length]; exact F.len _ _ _ _ z
    have b := hb s us (e.mod.kin.keeps fun b o eb => (e.bs b o eb).1) (by rw [List.append_nil]; exact l)
    rw [List.append_nil] at b
    exact F.run A outer s H _ us vs Q E hr e b r z⟩
end
/-- the captured cells: cs tells them -/
structure Cap (cl : List (Str × Addr)) (fr : List Str) (ws : List (Option V)) (cs : Cs) : Prop where
  len : ws.length = fr.length
  cell : ∀ c o, cs.lookup c = some o → ∃ v, o.data = .cell v
  all : ∀ y c, cl.lookup y = some c → ∃ o, cs.lookup c = some o
  inj : ∀ x y c, cl.lookup x = some c → cl.lookup y = some c → x = y
  has : ∀ (i : Nat) (y : Str), fr[i]? = some y → ∃ c, cl.lookup y = some c ∧ ∀ v, ws[i]? = some (some v) → ∃ u o, RelV v u ∧ cs.lookup c = some o ∧ o.data = .cell (some u)
/-- the function and its cells stand -/
structure HeldF (f : Addr) (F : NF) (cs : Cs) (H : Hp) : Prop where
  fn : H f = some (FnO f F)
  code : H F.c = some (CodeO F.c F.qual)
  cells : HeldC cs H
def spHid (cs : Cs) (sp : Sp) : Sp := fun vs H Q E => sp vs (hid cs H) (fun v H2 => (∀ c o, cs.lookup c = some o → H2 c = none) → Q v (shw cs H2)) (fun cl d H2 => (∀ c o, cs.lookup c = some o → H2 c = none) → E cl d (shw cs H2))
section
variable {P : Program} {w : World} {K : PySem.W.Frag} {mg : Str → Option Value} {base : Heap} {CX : CXT} {k : Nat} {f : Addr} {F : NF} {ps fr : List Str} {ws : List (Option V)} {cs : Cs} {sp : List (Option V) → Sp}
theorem fv_of_nok (hX : CxOk P w CX) (o : NOk P w K mg base CX k f F ps fr sp) (c : Cap F.cl fr ws cs) : FV P w K mg base CX k f (HeldF f F cs) (spHid cs (sp ws)) := by
  refine ⟨fun H h ki ok q => ?_, fun A outer s H us vs Q E hr e q r z => ?_⟩
  · obtain ⟨od, sl, doc, pm, ctv, ho⟩ := fnO_at ok q.fn
    exact ⟨_, od, _, sl, ho⟩
  · have nfs : ∀ c o, cs.lookup c = some o → c ∉ frs outer := fun c o e1 hm => by
      have := e.frf c hm
      rw [q.cells c o e1] at this; cases this
    have okh := hok_hid e.hok q.cells
    have e2 : Env0 P w K mg base A outer s (hid cs H) := ⟨e.frames, e.mod, fun b o eb => ⟨(e.bs b o eb).1, by
        cases q2 : cs.lookup b with
        | some y => exact hid_in q2
        | none => rw [hid_out q2]; exact (e.bs b o eb).2⟩, e.bsz, e.funs, fun b hb => by
        cases q2 : cs.lookup b with
        | some y => exact hid_in q2
        | none => rw [hid_out q2]; exact e.frf b hb, okh, e.bare⟩
    have of : cs.lookup f = none := by
      cases q2 : cs.lookup f with
      | none => rfl
      | some y =>
        obtain ⟨od, sl, doc, pm, ctv, ho⟩ := fnO_at e.hok q.fn
        have h1 := cell_at e.hok q.cells q2
        obtain ⟨v, hv⟩ := c.cell f y q2
        rw [ho] at h1; cases h1; cases hv
    have oc : cs.lookup F.c = none := by
      cases q2 : cs.lookup F.c with
      | none => rfl
      | some y =>
        obtain ⟨⟨o1, v1, t1, h1, h2, h3⟩, _, _⟩ := e.hok _ _ q.code
        have h4 := cell_at e.hok q.cells q2
        obtain ⟨v, hv⟩ := c.cell _ y q2
        rw [h1] at h4; cases h4
        rw [h2] at hv; cases hv
    have C : CellsAt F.cl fr ws s.heap (hid cs H) := ⟨c.len, fun y a ea => by
        obtain ⟨o, ho⟩ := c.all y a ea
        obtain ⟨v, hv⟩ := c.cell a o ho
        exact ⟨hid_in ho, v, o, cell_at e.hok q.cells ho, hv⟩, c.inj, fun i y ey => by
        obtain ⟨a, ha, hv⟩ := c.has i y ey
        exact ⟨a, ha, fun v ev => by
          obtain ⟨u, o, h1, h2, h3⟩ := hv v ev
          exact ⟨u, h1, o, cell_at e.hok q.cells h2, h3⟩⟩⟩
    refine codeAny_mono (o.run A outer s (hid cs H) us vs ws _ _ hr e2 (by rw [hid_out of]; exact q.fn) (by rw [hid_out oc]; exact q.code) C r z) fun rr s' hq => ?_
    cases rr with
    | error er => exact hX.shw outer cs H s E er s' e.hok q.cells nfs hq
    | ok fl =>
      cases fl with
      | next => exact hq
      | brk => exact hq
      | cont => exact hq
      | ret u =>
        obtain ⟨v, H', os, bare, un, ok', rv, q2⟩ := hq
        obtain ⟨u1, k1, k2⟩ := un_shw e.hok q.cells nfs un ok'
        exact ⟨v, _, os, bare, u1, k1, rv, q2 k2⟩
end
/-! calls of a name that holds a function -/
def tCallV (i : Nat) (f : Addr) (S : Hp → Prop) (sp : Sp) (E : XK) (t : TA) : TE := fun σ H Q => σ[i]? = some (some (.ref f)) ∧ S H ∧ t σ H fun vs H1 => S H1 ∧ sp vs H1 Q E
section
variable {X : Cx} {CX : CXT} {i k : Nat} {f : Addr} {S : Hp → Prop} {sp : Sp} {E : XK} {x : Str} {p pos : Pos} {e : Expr} {es : List Expr} {t : TA}
theorem run_v {pins : List (Addr × Obj)} {σ : L2.St} {H : Hp} {s : Shared} {Q : VK} {us : List Value} {vs : List V} (F : FV X.prog X.w X.K X.mg X.base CX k f S sp) (hr : Room k X.A) (hx : Passes CX X E) (I : Inv X pins σ H s) (hS : S H) (r : Vals vs us) (q : sp vs H Q E) :
    wpAny (model X.prog X.w) X.A (call (.ref f) us) (EP X pins σ Q) X.xe s := by
  refine wpAny_call (codeAny_mono (F.run X.A X.stack s H us vs Q E hr I.env0 hS r q) fun rr s' hq => ?_)
  rcases rr with er | fl
  · exact hx pins σ H s er s' I hq
  · cases fl with
    | ret u => exact I.after hq
    | next => exact hq.elim
    | brk => exact hq.elim
    | cont => exact hq.elim
theorem pe_callV (F : FV X.prog X.w X.K X.mg X.base CX k f S sp) (hr : Room k X.A) (hx : Passes CX X E) (hN : X.N[i]? = some x) (hv : Vis X.env.scope x) (ha : PA X (e :: es) t)
    (hd : (x == ("__debug__" : Str)) = false := by decide) (hcd : (x == ("__classdict__" : Str)) = false := by decide)
    (he : starEach (e :: es) X.env = (false, eval e X.env) :: starEach es X.env := by rfl) (hpl : (backTo pos (starEach es X.env)).any (·.1) = false := by rfl) :
    PE X (.Call (.Name x p) (e :: es) [] pos) (tCallV i f S sp E t) := by
  refine ⟨fun pins s σ H Q I h => ?_⟩
  obtain ⟨hs, hS, ht⟩ := h
  refine wpAny_Call_Name_kw (thn ((pe_var (pos := p) hN hv hd hcd).run pins s σ H (fun v H1 => v = .ref f ∧ H1 = H) I ⟨.ref f, hs, rfl, rfl⟩) fun u s1 ⟨v, H1, I1, r1, q1⟩ => ?_)
  obtain ⟨ev, eH⟩ := q1
  subst ev
  rw [eH] at I1
  have r1' : u = Value.ref f := r1
  subst r1'
  refine PySem.W.callWith_F (first := []) (F.fn H s1.heap I1.kIn I1.hok hS) (thn (ha.run pos pins s1 σ H _ I1 ht) fun us s2 ⟨vs, H2, I2, r, h1, q⟩ => ⟨F.fn H2 s2.heap I2.kIn I2.hok h1, ?_⟩) he hpl
  exact run_v F hr hx I2 h1 r q
/-- the name in the slot i -/
theorem pcv (i : Nat) (F : FV X.prog X.w X.K X.mg X.base CX k f S sp) (hr : Room k X.A) (hx : Passes CX X E) (ha : PA X (e :: es) t) (hN : X.N[i]? = some x := by rfl) (hv : Vis X.env.scope x := by first | exact Or.inl rfl | exact Or.inr (Or.inl rfl) | exact Or.inr (Or.inr rfl))
    (hd : (x == ("__debug__" : Str)) = false := by decide) (hcd : (x == ("__classdict__" : Str)) = false := by decide)
    (he : starEach (e :: es) X.env = (false, eval e X.env) :: starEach es X.env := by rfl) (hpl : (backTo pos (starEach es X.env)).any (·.1) = false := by rfl) :
    PE X (.Call (.Name x p) (e :: es) [] pos) (tCallV i f S sp E t) := pe_callV F hr hx hN hv ha hd hcd he hpl
theorem pe_callV0 (F : FV X.prog X.w X.K X.mg X.base CX k f S sp) (hr : Room k X.A) (hx : Passes CX X E) (hN : X.N[i]? = some x) (hv : Vis X.env.scope x)
    (hd : (x == ("__debug__" : Str)) = false := by decide) (hcd : (x == ("__classdict__" : Str)) = false := by decide) : PE X (.Call (.Name x p) [] [] pos) (tCallV i f S sp E tNil) := by
  refine ⟨fun pins s σ H Q I h => ?_⟩
  obtain ⟨hs, hS, h1, q⟩ := h
  refine wpAny_Call_Name_kw (thn ((pe_var (pos := p) hN hv hd hcd).run pins s σ H (fun v H1 => v = .ref f ∧ H1 = H) I ⟨.ref f, hs, rfl, rfl⟩) fun u s1 ⟨v, H1, I1, r1, q1⟩ => ?_)
  obtain ⟨ev, eH⟩ := q1
  subst ev
  rw [eH] at I1
  have r1' : u = Value.ref f := r1
  subst r1'
  refine PySem.W.callWith_F0 (first := []) (F.fn H s1.heap I1.kIn I1.hok hS) ?_
  exact run_v F hr hx I1 h1 .nil q
end
/-! a call that hands functions of this frame on: its cells are shown meanwhile -/
structure CapX (X : Cx) (σ : L2.St) (cs : Cs) : Prop where
  ok : X.Ok
  dom : ∀ c o, cs.lookup c = some o → (∃ v, o.data = .cell v) ∧ ∃ y, X.env.cells.lookup y = some c
  all : ∀ y c, X.env.cells.lookup y = some c → ∃ o, cs.lookup c = some o
  val : ∀ (j : Nat) (y : Str) (v : V), X.N[j]? = some y → σ[j]? = some (some v) → X.env.scope.names.lookup y = some .cell → ∃ c u o, X.env.cells.lookup y = some c ∧ RelV v u ∧ cs.lookup c = some o ∧ o.data = .cell (some u)
def tCallC (X : Cx) (sp : Sp) (dvs : List V) (E : XK) (t : TA) : TE := fun σ H Q => t σ H fun vs H1 => ∀ cs : Cs, CapX X σ cs → (∀ c o, cs.lookup c = some o → H1 c = none) →
  sp (vs ++ dvs) (shw cs H1) (fun v H2 => HeldC cs H2 ∧ Q v (hid cs H2)) (fun cl d H2 => HeldC cs H2 ∧ E cl d (hid cs H2))
def capsOf (cells : List (Str × Addr)) (h : Heap) : Cs := cells.filterMap fun p => if cells.lookup p.1 = some p.2 then (h.get? p.2).map fun o => (p.2, o) else none
theorem lookup_mem {α : Type} : ∀ {l : List (Addr × α)} {c : Addr} {o : α}, l.lookup c = some o → (c, o) ∈ l
  | [], _, _, h => by cases h
  | (a, b) :: l, c, o, h => by
    rw [List.lookup_cons] at h
    cases q : c == a with
    | true =>
      rw [q] at h
      cases h
      rw [beq_iff_eq.mp q]
      exact List.mem_cons_self
    | false =>
      rw [q] at h
      exact List.mem_cons_of_mem _ (lookup_mem h)
theorem mem_lookup' {α : Type} : ∀ {l : List (Addr × α)} {c : Addr} {o : α}, (c, o) ∈ l → ∃ o', l.lookup c = some o'
  | (a, b) :: l, c, o, h => by
    rw [List.lookup_cons]
    cases q : c == a with
    | true => exact ⟨b, rfl⟩
    | false =>
      rcases List.mem_cons.mp h with e | e
      · cases e
        simp at q
      · exact mem_lookup' e
theorem capsOf_some {cells : List (Str × Addr)} {h : Heap} {c : Addr} {o : Obj} (e : (capsOf cells h).lookup c = some o) : h.get? c = some o ∧ ∃ y, cells.lookup y = some c := by
  have hm := lookup_mem e
  obtain ⟨⟨y, a⟩, _, h2⟩ := List.mem_filterMap.mp hm
  dsimp only at h2
  split at h2
  · rename_i hl
    cases q : h.get? a with
    | none => rw [q] at h2; cases h2
    | some o' =>
      rw [q] at h2
      have h3 : (a, o') = (c, o) := Option.some.inj h2
      cases h3
      exact ⟨q, y, hl⟩
  · cases h2
theorem mem_of_look {l : List (Str × Addr)} {y : Str} {c : Addr} (h : l.lookup y = some c) : (y, c) ∈ l := PySem.mem_of_lookup h
theorem capsOf_has {cells : List (Str × Addr)} {h : Heap} {y : Str} {c : Addr} {o : Obj} (e : cells.lookup y = some c) (ho : h.get? c = some o) : (capsOf cells h).lookup c = some o := by
  have hm : (c, o) ∈ capsOf cells h := List.mem_filterMap.mpr ⟨(y, c), mem_of_look e, by
    dsimp only
    rw [if_pos e, ho]
    rfl⟩
  obtain ⟨o', h'⟩ := mem_lookup' hm
  have := (capsOf_some h').1
  rw [ho] at this
  cases this
  exact h'
section
variable {X : Cx} {pins : List (Addr × Obj)} {σ : L2.St} {H : Hp} {s : Shared}
theorem capX_of (I : Inv X pins σ H s) : CapX X σ (capsOf X.env.cells s.heap) := by
  refine ⟨I.ok, fun c o e => ?_, fun y c e => ?_, fun j y v e1 e2 e3 => ?_⟩
  · obtain ⟨h1, y, h2⟩ := capsOf_some e
    obtain ⟨v, o', ho', hd⟩ := I.cell y c h2
    rw [h1] at ho'; cases ho'
    exact ⟨⟨v, hd⟩, y, h2⟩
  · obtain ⟨v, o', ho', hd⟩ := I.cell y c e
    exact ⟨o', capsOf_has e ho'⟩
  · obtain ⟨m, hn, hl⟩ := I.loc
    obtain ⟨u, r, l⟩ := hl j y v e1 e2 (.inr (.inl e3))
    rcases l with ⟨z, _⟩ | ⟨_, c, hc, o, ho, hd⟩
    · have z' : X.env.scope.names.lookup y = some .local := z
      rw [e3] at z'; cases z'
    · exact ⟨c, u, o, hc, r, capsOf_has hc ho, hd⟩
variable {CX : CXT} {k : Nat} {f : Addr} {fd : FuncData} {ps : List Str} {sp : Sp} {dvs : List V} {ds : List Value} {E : XK} {x : Str} {p pos : Pos} {e : Expr} {es : List Expr} {t : TA}
theorem caps_free (hfn : ∀ y, X.fn y = true) (I : Inv X pins σ H s) : ∀ c o, (capsOf X.env.cells s.heap).lookup c = some o → H c = none ∧ s.heap.get? c = some o ∧ c ∉ frs X.stack := fun c o e => by
  obtain ⟨h1, y, h2⟩ := capsOf_some e
  refine ⟨I.freeC y c h2, h1, fun hm => ?_⟩
  rcases List.mem_cons.mp (I.stkSub c hm) with z | z
  · exact I.cne y c h2 z
  · obtain ⟨_, o', ho', _⟩ := I.ok.funs.mem z
    exact absurd (Nat.lt_of_lt_of_le (Heap.lt_size ho') (I.ok.cab y c (hfn y) h2)) (Nat.lt_irrefl _)
theorem run_fnC {Q : VK} {us : List Value} {vs : List V} (hX : CxOk X.prog X.w CX) (F : FnOk X.prog X.w X.K X.mg X.base CX k f fd ps sp) (hr : Room k X.A) (hfn : ∀ y, X.fn y = true) (hb : Binds X.K fd ps ds) (hd : Vals dvs ds) (hx : Passes CX X E) (I : Inv X pins σ H s) (r : Vals vs us)
    (h : ∀ cs : Cs, CapX X σ cs → (∀ c o, cs.lookup c = some o → H c = none) → sp (vs ++ dvs) (shw cs H) (fun v H2 => HeldC cs H2 ∧ Q v (hid cs H2)) (fun cl d H2 => HeldC cs H2 ∧ E cl d (hid cs H2))) :
    wpAny (model X.prog X.w) X.A (call (.ref f) us) (EP X pins σ Q) X.xe s := by
  have hn := caps_free hfn I
  have hsp := h _ (capX_of I) fun c o e => (hn c o e).1
  have r2 : Vals (vs ++ dvs) (us ++ ds) := r.append hd
  have hl : (us ++ ds).length = ps.length := by rw [← r2.length]; exact F.len _ _ _ _ hsp
  have e0 := I.env0
  have notbase : ∀ b o, X.base.get? b = some o → (capsOf X.env.cells s.heap).lookup b = none := fun b o eb => by
    cases q : (capsOf X.env.cells s.heap).lookup b with
    | none => rfl
    | some y =>
      obtain ⟨_, y2, h2⟩ := capsOf_some q
      exact absurd (Nat.lt_of_lt_of_le (Nat.lt_of_lt_of_le (Heap.lt_size eb) I.ok.bsz) (I.ok.cab y2 b (hfn y2) h2)) (Nat.lt_irrefl _)
  have e1 : Env0 X.prog X.w X.K X.mg X.base X.A X.stack s (shw (capsOf X.env.cells s.heap) H) := ⟨e0.frames, e0.mod, fun b o eb => ⟨(e0.bs b o eb).1, by
      rw [shw_out (notbase b o eb)]; exact (e0.bs b o eb).2⟩, e0.bsz, e0.funs, fun b hb => by
      cases q : (capsOf X.env.cells s.heap).lookup b with
      | none => rw [shw_out q]; exact e0.frf b hb
      | some y => exact absurd hb (hn b y q).2.2, hok_shw e0.hok fun c o e => ⟨(hn c o e).1, (hn c o e).2.1⟩, e0.bare⟩
  refine wpAny_call (codeAny_mono (F.run X.A X.stack s _ ⟨us, []⟩ (us ++ ds) (vs ++ dvs) _ _ hr e1 (hb s us I.kIn hl) r2 hsp) fun rr s' hq => ?_)
  rcases rr with er | fl
  · exact hx pins σ H s er s' I (hX.hid _ _ H s E er s' hn hq)
  · cases fl with
    | ret u =>
      obtain ⟨v, H', os, bare, un, ok', rv, hc, q⟩ := hq
      obtain ⟨u1, k1⟩ := un_hid hn un ok' hc
      exact I.after ⟨v, _, os, bare, u1, k1, rv, q⟩
    | next => exact hq.elim
    | brk => exact hq.elim
    | cont => exact hq.elim
theorem pe_callC (hX : CxOk X.prog X.w CX) (F : FnOk X.prog X.w X.K X.mg X.base CX k f fd ps sp) (hr : Room k X.A) (hfn : ∀ y, X.fn y = true) (hg : Gl X x) (hm : X.mg x = some (.ref f)) (hk : PySem.W.keepIn X.K (.ref f) = true) (hb : Binds X.K fd ps ds) (hd : Vals dvs ds) (hx : Passes CX X E) (ha : PA X (e :: es) t)
    (hdb : (x == ("__debug__" : Str)) = false := by decide)
    (he : starEach (e :: es) X.env = (false, eval e X.env) :: starEach es X.env := by rfl) (hpl : (backTo pos (starEach es X.env)).any (·.1) = false := by rfl) : PE X (.Call (.Name x p) (e :: es) [] pos) (tCallC X sp dvs E t) := by
  refine ⟨fun pins s σ H Q I h => ?_⟩
  refine wpAny_Call_Name_kw (ld_glob I hg hm ?_ hdb)
  refine PySem.W.callWith_K (h₀ := X.base) I.ok.mod.kin hk (thn (ha.run pos pins s σ H _ I h) fun us s2 ⟨vs, H2, I2, r, q⟩ => ⟨I2.kIn, ?_⟩) he hpl
  exact run_fnC hX F hr hfn hb hd hx I2 r q
/-- the cells of a function made in this frame, as the frame's cells tell them -/
theorem cap_of {cs : Cs} {scope : Scope} {fr : List Str} {js : List Nat} (c : CapX X σ cs) (hfree : ∀ y ∈ scope.names, y.2 = .free → X.env.scope.names.lookup y.1 = some .cell) (hfr : ∀ y ∈ fr, (y, NameKind.free) ∈ scope.names) (hjs : js.map (fun j => X.N[j]?) = fr.map some) :
    Cap (cloFrom X.env.cells scope.names []) fr (js.map (slotAt σ)) cs := by
  have hf : ∀ y ∈ scope.names, y.2 = .free → ∃ a, X.env.cells.lookup y.1 = some a := fun y hy e => c.ok.has _ (.inl (hfree y hy e))
  have hlen := congrArg List.length hjs
  rw [List.length_map, List.length_map] at hlen
  refine ⟨by rw [List.length_map]; exact hlen, fun a o e => (c.dom a o e).1, fun y a e => c.all y a (clo_cm hf e), fun x y a e1 e2 => c.ok.inj x y a (clo_cm hf e1) (clo_cm hf e2), fun i y e => ?_⟩
  have hy := List.mem_of_getElem? e
  have hk := hfree (y, .free) (hfr y hy) rfl
  obtain ⟨a, ha⟩ := c.ok.has y (.inl hk)
  refine ⟨a, clo_has hf (hfr y hy) ha, fun v ev => ?_⟩
  have e2 : (js.map fun j => X.N[j]?)[i]? = some (some y) := by
    rw [hjs, List.getElem?_map, e]; rfl
  rw [List.getElem?_map] at e2 ev
  cases ej : js[i]? with
  | none => rw [ej] at e2; cases e2
  | some j =>
    rw [ej] at e2 ev
    have hj : X.N[j]? = some y := Option.some.inj (show some (X.N[j]?) = some (some y) from e2)
    have ev2 : σ[j]? = some (some v) := slotAt_some (Option.some.inj (show some (slotAt σ j) = some (some v) from ev))
    obtain ⟨a', u, o, h1, h2, h3, h4⟩ := c.val j y v hj ev2 hk
    rw [ha] at h1; cases h1
    exact ⟨u, o, h2, h3, h4⟩
end
/-! a def whose code object is told -/
structure FunC (K : PySem.W.Frag) (x qual : Str) (st : Stmt) (f : Addr) (fd : FuncData) (c : Addr) : Prop where
  ex : ∃ (oc : Value) (od : Option Addr) (kV doc pm : Value) (an : Option Addr) (ct : Value) (osl : Array (Option Value)),
    fd = PySem.W.fnOf x qual (defArgs st) (defBody st) (defScope st) .none kV doc pm an (.ref c) ct ∧ K.lookup f = some ⟨oc, od, .func fd, osl⟩ ∧ PySem.W.codeIn K (.ref c) qual = true
  kp : PySem.W.keepIn K (.ref f) = true
section
variable {P : Program} {w : World} {K : PySem.W.Frag} {mg : Str → Option Value} {base : Heap} {x qual : Str} {st : Stmt} {f c : Addr} {fd : FuncData} {N ps : List Str} {k : Nat} {sp : Sp}
theorem FunC.fun (F : FunC K x qual st f fd c) : Fun K x qual st f fd := by
  obtain ⟨oc, od, kV, doc, pm, an, ct, osl, e, l, h⟩ := F.ex
  exact ⟨⟨oc, od, kV, doc, pm, an, _, ct, osl, e, l, h⟩, F.kp⟩
theorem FunC.ok (F : FunC K x qual st f fd c) (S : FnScope N ps (defScope st)) (len : ∀ vs H Q E, sp vs H Q E → vs.length = ps.length)
    (hbody : ∀ (A : Around) (outer : List Env) (s : Shared) (H : Hp) (vs : List V) (Q : VK) (E : XK), Room k (A.deeper (envOfC qual (defScope st) s.heap.objs.size f (.ref c))) → sp vs H Q E →
      ∃ t, PSs (cxOf CX0 P w K mg base N qual (defScope st) f (.ref c) A outer s H E).nox (defBody st) t ∧ t { nx := fun _ H' => Q .non H', rt := Q } (start N vs) H) : FnOk P w K mg base CX0 (k + 1) f fd ps sp := by
  obtain ⟨oc, od, kV, doc, pm, an, ct, osl, rfl, lk, hcd⟩ := F.ex
  refine fn_of lk hcd S len fun A outer s H vs Q E hr hsp => ?_
  obtain ⟨t, h, q⟩ := hbody A outer s H vs Q E hr hsp
  exact ⟨t, h.nox, q⟩
theorem FunC.okX (F : FunC K x qual st f fd c) (S : FnScope N ps (defScope st)) (len : ∀ vs H Q E, sp vs H Q E → vs.length = ps.length)
    (hbody : ∀ (A : Around) (outer : List Env) (s : Shared) (H : Hp) (vs : List V) (Q : VK) (E : XK), Room k (A.deeper (envOfC qual (defScope st) s.heap.objs.size f (.ref c))) → sp vs H Q E →
      ∃ t, PSs (cxOf (L2.CX P w) P w K mg base N qual (defScope st) f (.ref c) A outer s H E) (defBody st) t ∧ t { nx := fun _ H' => Q .non H', rt := Q } (start N vs) H) : FnOk P w K mg base (L2.CX P w) (k + 1) f fd ps sp := by
  obtain ⟨oc, od, kV, doc, pm, an, ct, osl, rfl, lk, hcd⟩ := F.ex
  exact fn_of lk hcd S len fun A outer s H vs Q E hr hsp => hbody A outer s H vs Q E hr hsp
theorem funC_mk {oc : Value} {od an : Option Addr} {osl : Array (Option Value)} {kV doc pm ct : Value} (l : K.lookup f = some ⟨oc, od, .func (PySem.W.fnOf x qual (defArgs st) (defBody st) (defScope st) .none kV doc pm an (.ref c) ct), osl⟩)
    (cd : PySem.W.codeIn K (.ref c) qual = true) (k : PySem.W.keepIn K (.ref f) = true) : FunC K x qual st f (PySem.W.fnOf x qual (defArgs st) (defBody st) (defScope st) .none kV doc pm an (.ref c) ct) c := ⟨⟨oc, od, kV, doc, pm, an, ct, osl, rfl, l, cd⟩, k⟩
end
end Vf
set_option Elab.async false
set_option linter.all false
set_option maxRecDepth 100000
set_option maxHeartbeats 4000000
/-! lambdas as values -/
namespace Vf
open PySem L2 PyProof.Rows NdefX LamX
abbrev lamO (F : NF) (e : Expr) (pm ctv : Value) : Obj := PySem.W.kla_obj F.name F.qual F.params e F.scope F.cl pm F.c ctv
/-- the object at f is the lambda with this body -/
def FnL (f : Addr) (F : NF) (e : Expr) : HO := .ext fun h => ∃ (pm ctv : Value), h.get? f = some (lamO F e pm ctv)
theorem fnL_at {P : Program} {w : World} {H : Hp} {h : Heap} {f : Addr} {F : NF} {e : Expr} (ok : HOk P w H h) (q : H f = some (FnL f F e)) : ∃ (pm ctv : Value), h.get? f = some (lamO F e pm ctv) := (ok f _ q).1
structure LOk (P : Program) (w : World) (K : PySem.W.Frag) (mg : Str → Option Value) (base : Heap) (CX : CXT) (k : Nat) (f : Addr) (F : NF) (e : Expr) (ps fr : List Str) (sp : List (Option V) → Sp) : Prop where
  run : ∀ (A : Around) (outer : List Env) (s : Shared) (H : Hp) (us : List Value) (vs : List V) (ws : List (Option V)) (Q : VK) (E : XK), Room k A → Env0 P w K mg base A outer s H → H f = some (FnL f F e) → H F.c = some (CodeO F.c F.qual) →
    CellsAt F.cl fr ws s.heap H → Vals vs us → sp ws vs H Q E → codeAny (model P w) A (.call (.ref f) ⟨us, []⟩) (CR CX outer P w H s Q E) s
structure HeldL (f : Addr) (F : NF) (e : Expr) (cs : Cs) (H : Hp) : Prop where
  fn : H f = some (FnL f F e)
  code : H F.c = some (CodeO F.c F.qual)
  cells : HeldC cs H
section
variable {P : Program} {w : World} {K : PySem.W.Frag} {mg : Str → Option Value} {base : Heap} {CX : CXT} {k : Nat} {f : Addr} {F : NF} {e : Expr} {N ps fr : List Str} {ws : List (Option V)} {cs : Cs} {sp : List (Option V) → Sp}
theorem lok_of (S : NScope N ps fr F.scope) (hb : ∀ (pm ctv : Value) (us : List Value), us.length = ps.length → bindArgs (PySem.W.kla_fn F.name F.qual F.params e F.scope F.cl pm (.ref F.c) ctv) ⟨us, []⟩ = pure (ps.zip us)) (len : ∀ ws vs H Q E, sp ws vs H Q E → vs.length = ps.length)
    (hbody : ∀ (A : Around) (outer : List Env) (s : Shared) (H : Hp) (vs : List V) (ws : List (Option V)) (Q : VK) (E : XK), Room k (A.deeper (envF F f s.heap.objs.size)) → ws.length = fr.length → sp ws vs H Q E →
      ∃ t, PE (ncx CX P w K mg base N F f A outer s H E) e t ∧ t (startF N vs ws) H Q) :
    LOk P w K mg base CX (k + 1) f F e ps fr sp := by
  refine ⟨fun A outer s H us vs ws Q E hr e0 hf hc C r hsp => ?_⟩
  have hl := len _ _ _ _ _ hsp
  have lim : s.heap.NoLimit := e0.mod.nolimit.keeps fun b o eb => (e0.bs b o eb).1
  obtain ⟨pm, ctv, ho⟩ := fnL_at e0.hok hf
  obtain ⟨⟨oc, vc, tc, hoc, hdc, hvc⟩, _, _⟩ := e0.hok _ _ hc
  refine PySem.W.kla_callFunE hr.depth ho rfl S.co S.gen rfl ⟨F.c, oc, vc, tc, rfl, hoc, hdc, hvc⟩ ?_
  have hbu := hb pm ctv us (by rw [← r.length]; exact hl)
  rw [hbu]
  refine wpAny_pure (wpAny_newFunctionEnv S.nocell (fun ⟨n, _⟩ hy => S.par n (List.of_mem_zip hy).1) (fun h₁ hns hsb => ⟨lim.fresh _ hsb, ?_⟩) S.kind)
  show codeAny _ _ (.expr e (envF F f s.heap.objs.size)) _ _
  have keeps : ∀ b o, s.heap.get? b = some o → h₁.get? b = some o := fun b o eb => hsb.extBut b o (Nat.ne_of_lt (Heap.lt_size eb)) (Heap.get?_push_of_some _ eb)
  obtain ⟨t, ht, hq⟩ := hbody A outer s H vs ws Q E (hr.deeper _) C.len hsp
  have I := inv_startN (CX := CX) (P := P) (w := w) (K := K) (mg := mg) (base := base) (f := f) (A := A) (outer := outer) (E := E) (tk := s.toks + (ps.zip us).length) S hr.hd e0 hl r C hns keeps
  refine PySem.W.kla_codeExpr (wpAny_mono (ht.run [] _ (startF N vs ws) H Q I hq) (fun v s' hs => ?_) fun er s' hs => hs)
  obtain ⟨v2, H2, J, rv, q⟩ := hs
  exact ⟨v2, H2, J.os, J.bare, J.base, J.hok, rv, q⟩
theorem fv_of_lok (hX : CxOk P w CX) (o : LOk P w K mg base CX k f F e ps fr sp) (c : Cap F.cl fr ws cs) : FV P w K mg base CX k f (HeldL f F e cs) (spHid cs (sp ws)) := by
  refine ⟨fun H h ki ok q => ?_, fun A outer s H us vs Q E hr e0 q r z => ?_⟩
  · obtain ⟨pm, ctv, ho⟩ := fnL_at ok q.fn
    exact ⟨_, _, _, _, ho⟩
  · have nfs : ∀ c o, cs.lookup c = some o → c ∉ frs outer := fun c o e1 hm => by
      have := e0.frf c hm
      rw [q.cells c o e1] at this; cases this
    have okh := hok_hid e0.hok q.cells
    have e2 : Env0 P w K mg base A outer s (hid cs H) := ⟨e0.frames, e0.mod, fun b o eb => ⟨(e0.bs b o eb).1, by
        cases q2 : cs.lookup b with
        | some y => exact hid_in q2
        | none => rw [hid_out q2]; exact (e0.bs b o eb).2⟩, e0.bsz, e0.funs, fun b hb => by
        cases q2 : cs.lookup b with
        | some y => exact hid_in q2
        | none => rw [hid_out q2]; exact e0.frf b hb, okh, e0.bare⟩
    have of : cs.lookup f = none := by
      cases q2 : cs.lookup f with
      | none => rfl
      | some y =>
        obtain ⟨pm, ctv, ho⟩ := fnL_at e0.hok q.fn
        have h1 := cell_at e0.hok q.cells q2
        obtain ⟨v, hv⟩ := c.cell f y q2
        rw [ho] at h1; cases h1; cases hv
    have oc : cs.lookup F.c = none := by
      cases q2 : cs.lookup F.c with
      | none => rfl
      | some y =>
        obtain ⟨⟨o1, v1, t1, h1, h2, h3⟩, _, _⟩ := e0.hok _ _ q.code
        have h4 := cell_at e0.hok q.cells q2
        obtain ⟨v, hv⟩ := c.cell _ y q2
        rw [h1] at h4; cases h4
        rw [h2] at hv; cases hv
    have C : CellsAt F.cl fr ws s.heap (hid cs H) := ⟨c.len, fun y a ea => by
        obtain ⟨o, ho⟩ := c.all y a ea
        obtain ⟨v, hv⟩ := c.cell a o ho
        exact ⟨hid_in ho, v, o, cell_at e0.hok q.cells ho, hv⟩, c.inj, fun i y ey => by
        obtain ⟨a, ha, hv⟩ := c.has i y ey
        exact ⟨a, ha, fun v ev => by
          obtain ⟨u, o, h1, h2, h3⟩ := hv v ev
          exact ⟨u, h1, o, cell_at e0.hok q.cells h2, h3⟩⟩⟩
    refine codeAny_mono (o.run A outer s (hid cs H) us vs ws _ _ hr e2 (by rw [hid_out of]; exact q.fn) (by rw [hid_out oc]; exact q.code) C r z) fun rr s' hq => ?_
    rcases rr with er | fl
    · exact hX.shw outer cs H s E er s' e0.hok q.cells nfs hq
    · cases fl with
      | next => exact hq
      | brk => exact hq
      | cont => exact hq
      | ret u =>
        obtain ⟨v, H', os, bare, un, ok', rv, q2⟩ := hq
        obtain ⟨u1, k1, k2⟩ := un_shw e0.hok q.cells nfs un ok'
        exact ⟨v, _, os, bare, u1, k1, rv, q2 k2⟩
end
section
variable {X : Cx} {pins : List (Addr × Obj)} {σ : L2.St} {H : Hp} {s : Shared}
theorem inv_fnL {F : NF} {e : Expr} {o : Obj} {t' : Nat} {pm ctv : Value} (I : Inv X pins σ H s) (ho : o = lamO F e pm ctv) :
    Inv X pins σ (upd H s.heap.objs.size (FnL s.heap.objs.size F e)) { s with heap := s.heap.push o, toks := t' } := by
  subst ho
  refine I.laid (a := s.heap.objs.size) (fun b u eb => Heap.get?_push_of_some _ eb) (Nat.le_refl _) ?_
  have e1 : (s.heap.push (lamO F e pm ctv)).get? s.heap.objs.size = some (lamO F e pm ctv) := Heap.get?_push_size _ rfl
  exact ⟨⟨pm, ctv, e1⟩, ⟨_, e1⟩, fun h1 h2 ⟨p, t, z⟩ st => ⟨p, t, st _ z⟩⟩
/-- its code object is new, or stands in the table -/
theorem lam_made {T : List NTab} {nm : Nat → Nat → Str} {c P : Addr} {params : Arguments} {body : Expr} {scope : Scope} {pos : Pos} {E : Value → Shared → Prop} {Q : Value → Shared → Prop} (I : Inv X pins σ H s) (TB : TabB X.base X.mg c P) (hcode : X.env.code = .ref c)
    (hm : (P, nm) ∈ T) (hn : nm pos.line pos.col = X.env.qual ++ "<lambda>") (hu : ∀ p ∈ T, p.1 = P → p.2 = nm) (hT : TabsN T H) (hdef : defaultsOf params X.env = ([], [])) (hfree : ∀ y ∈ scope.names, y.2 = .free → ∃ c, X.env.cells.lookup y.1 = some c)
    (h : ∀ (f c' : Addr) (H1 : Hp) (s' : Shared), Inv X pins σ H1 s' → ExtN H H1 → (∀ b, H1 b = none → H b = none) → TabsN T H1 → H f = none → H1 f = some (FnL f ⟨"<lambda>", X.env.qual ++ "<lambda>", params, [], scope, cloFrom X.env.cells scope.names [], c'⟩ body) → H1 c' = some (CodeO c' (X.env.qual ++ "<lambda>")) → Q (.ref f) s') :
    wpAny (model X.prog X.w) X.A (eval (.Lambda params body scope pos) X.env) Q E s := by
  obtain ⟨ps, hP, ht, ha⟩ := (show TabN H P nm from hT _ hm)
  have bP : s.heap.BuiltinsAt X.mg P := TB.bm.keeps I.bk
  have hP' : s.heap.get? P = some { cls := .none, data := .fields ps } := I.hok P _ hP
  refine PySem.W.kla_eval hdef ?_
  cases hc : codeAmong pos ps.toList with
  | none =>
    refine PySem.W.kla_makeFunction (mg := X.mg) (c := c) (P := P) (ps := ps) (closure_ok hfree) I.ok.glob (I.mod.glob.keeps I.bk) hcode (TB.code.keeps I.bk) hP' ht hc TB.gP bP fun c' ctv h' tk hx hge hlt hrec htb => ?_
    obtain ⟨c2, oc, vs, t, e2, hoc, hd, hv⟩ := hrec
    cases e2
    have nC : H c' = none := I.hok.fresh hge
    have I1 := inv_table (t' := tk) (more := #[rawInt pos.line, rawInt pos.col, .ref c']) (h' := h') I hP (fun b o hb e => hx b o hb e) htb hge ⟨oc, vs, t, hoc, hd, hv⟩
    generalize eH1 : upd (upd H P (.tbl (ps ++ #[rawInt pos.line, rawInt pos.col, .ref c']))) c' (CodeO c' (X.env.qual ++ "<lambda>")) = H1
    have hE : ExtN H H1 := fun b o e n => by
      have n1 : b ≠ P := fun z => n ps (Option.some.inj (e.symm.trans (by rw [z]; exact hP)))
      rw [← eH1, upd_ne (ne_of_none e nC), upd_ne n1]
      exact e
    have T1 : TabsN T H1 := fun p hp => by
      by_cases hb : p.1 = P
      · have e3 : p.2 = nm := hu p hp hb
        rw [e3, hb]
        refine ⟨ps ++ #[rawInt pos.line, rawInt pos.col, .ref c'], by rw [← eH1, upd_ne (ne_of_none hP nC), upd_same], ?_, fun p' cv hcv => ?_⟩
        · rw [Array.toList_append]
          exact PySem.TriplesOk_snoc _ _ _ _ ht
        · rw [Array.toList_append] at hcv
          rcases among_app2 _ ht hcv with z | ⟨z, z1, z2⟩
          · obtain ⟨c0, e1, e2⟩ := ha p' cv z
            exact ⟨c0, e1, hE _ _ e2 codeO_ne⟩
          · refine ⟨c', z, ?_⟩
            rw [← z1, ← z2, hn, ← eH1]
            exact upd_same
      · obtain ⟨ps', a1, a2, a3⟩ := hT p hp
        refine ⟨ps', by rw [← eH1, upd_ne (ne_of_none a1 nC), upd_ne hb]; exact a1, a2, fun p' cv hcv => ?_⟩
        obtain ⟨c0, e1, e2⟩ := a3 p' cv hcv
        exact ⟨c0, e1, hE _ _ e2 codeO_ne⟩
    have cH1 : H1 c' = some (CodeO c' (X.env.qual ++ "<lambda>")) := by rw [← eH1]; exact upd_same
    have back : ∀ b, H1 b = none → H b = none := fun b e => by
      rw [← eH1] at e
      exact upd_none (upd_none e)
    rw [eH1] at I1
    have nF := I1.hok.fresh (Nat.le_refl _)
    have I2 := inv_fnL (F := ⟨"<lambda>", X.env.qual ++ "<lambda>", params, [], scope, cloFrom X.env.cells scope.names [], c'⟩) (e := body) (t' := tk) (pm := (X.mg "__name__").getD .none) (ctv := ctv) I1 rfl
    refine h h'.objs.size c' _ _ I2 (fun b o e n => ?_) (fun b e => back b (upd_none e)) (T1.ext fun b o e => ?_) (I.hok.fresh (Nat.le_trans hge (Nat.le_of_lt hlt))) upd_same ?_
    · exact (upd_ne (ne_of_none (hE b o e n) nF)).trans (hE b o e n)
    · exact (upd_ne (ne_of_none e nF)).trans e
    · exact (upd_ne (Nat.ne_of_lt hlt)).trans cH1
  | some cv =>
    obtain ⟨c', e, hco⟩ := ha pos cv hc
    subst e
    rw [hn] at hco
    refine PySem.W.kla_makeFunctionHit (mg := X.mg) (c := c) (P := P) (ps := ps) (closure_ok hfree) I.ok.glob (I.mod.glob.keeps I.bk) hcode (TB.code.keeps I.bk) hP' ht hc bP fun ctv h' tk hx hsz => ?_
    have I1 : Inv X pins σ H { s with heap := h', toks := tk } := I.kept hx
    have nF : H h'.objs.size = none := I1.hok.fresh (Nat.le_refl _)
    have I2 := inv_fnL (F := ⟨"<lambda>", X.env.qual ++ "<lambda>", params, [], scope, cloFrom X.env.cells scope.names [], c'⟩) (e := body) (t' := tk) (pm := (X.mg "__name__").getD .none) (ctv := ctv) I1 rfl
    refine h h'.objs.size c' _ _ I2 (fun b o e n => ?_) (fun b e => upd_none e) (hT.ext fun b o e => ?_) nF upd_same ?_
    · exact (upd_ne (ne_of_none e nF)).trans e
    · exact (upd_ne (ne_of_none e nF)).trans e
    · exact (upd_ne (ne_of_none hco nF)).trans hco
end
/-- the reading of a lambda's making -/
def tLamV (T : List NTab) (mk : Addr → NF) (body : Expr) : TE := fun σ H Q => TabsN T H ∧ ∀ (f c' : Addr) (H1 : Hp), ExtN H H1 → (∀ b, H1 b = none → H b = none) → TabsN T H1 → H f = none → H1 f = some (FnL f (mk c') body) → H1 c' = some (CodeO c' (mk c').qual) → Q (.ref f) H1
theorem pe_lamV {X : Cx} {T : List NTab} {nm : Nat → Nat → Str} {c P : Addr} {params : Arguments} {body : Expr} {scope : Scope} {pos : Pos} (TB : TabB X.base X.mg c P) (hcode : X.env.code = .ref c) (hm : (P, nm) ∈ T) (hn : nm pos.line pos.col = X.env.qual ++ "<lambda>") (hu : ∀ p ∈ T, p.1 = P → p.2 = nm)
    (hdef : defaultsOf params X.env = ([], [])) (hfree : ∀ y ∈ scope.names, y.2 = .free → X.env.scope.names.lookup y.1 = some .cell ∨ X.env.scope.names.lookup y.1 = some .free) :
    PE X (.Lambda params body scope pos) (tLamV T (fun c' => ⟨"<lambda>", X.env.qual ++ "<lambda>", params, [], scope, cloFrom X.env.cells scope.names [], c'⟩) body) := by
  refine ⟨fun pins s σ H Q I h => ?_⟩
  obtain ⟨hT, h⟩ := h
  have hfr : ∀ y ∈ scope.names, y.2 = .free → ∃ c, X.env.cells.lookup y.1 = some c := fun y hy e => (hfree y hy e).elim (fun z => I.ok.has _ (.inl z)) fun z => I.ok.has _ (.inr z)
  exact lam_made I TB hcode hm hn hu hT hdef hfr fun f c' H1 s' I1 eN back T1 f0 f1 c1 => ⟨.ref f, H1, I1, rfl, h f c' H1 eN back T1 f0 f1 c1⟩
end Vf
set_option Elab.async false
set_option linter.all false
set_option maxRecDepth 100000
set_option maxHeartbeats 4000000
/-! machines explored: the mirror, keys, dicts of numbers -/
namespace Vf
open PySem L2 PyProof.Rows NdefX LamX
section
variable {κ : Type} [DecidableEq κ]
/-- the number of a key among those found -/
def num (ks : List κ) (k : κ) : Nat := ks.idxOf k
/-- one letter: the key behind is added where it is new -/
def add1 (ks : List κ) (k : κ) : List κ := if k ∈ ks then ks else ks ++ [k]
/-- a row: state (keys, row) over the letters -/
def rowOf (st : κ → Nat → κ) (m : κ) : List Nat → List κ × List Nat → List κ × List Nat
  | [], p => p
  | c :: cs, (ks, row) => rowOf st m cs (add1 ks (st m c), row ++ [num (add1 ks (st m c)) (st m c)])
/-- one turn of the exploring -/
def turn (st : κ → Nat → κ) (L : List Nat) (p : List κ × List (List Nat)) : List κ × List (List Nat) :=
  match p.1[p.2.length]? with
  | none => p
  | some m => ((rowOf st m L (p.1, [])).1, p.2 ++ [(rowOf st m L (p.1, [])).2])
def turns (st : κ → Nat → κ) (L : List Nat) (s0 : κ) : Nat → List κ × List (List Nat)
  | 0 => ([s0], [])
  | n + 1 => turn st L (turns st L s0 n)
theorem add1_mem {ks : List κ} {k : κ} : k ∈ add1 ks k := by
  unfold add1
  split
  · assumption
  · simp
theorem add1_sub {ks : List κ} {k x : κ} (h : x ∈ ks) : x ∈ add1 ks k := by
  unfold add1
  split
  · exact h
  · simp [h]
theorem add1_pre (ks : List κ) (k : κ) : ks <+: add1 ks k := by
  unfold add1
  split
  · exact List.prefix_refl _
  · exact List.prefix_append _ _
theorem add1_nodup {ks : List κ} {k : κ} (h : ks.Nodup) : (add1 ks k).Nodup := by
  unfold add1
  split
  · exact h
  · rename_i hn
    exact List.nodup_append.mpr ⟨h, by simp, fun a ha b hb e => by simp at hb; subst hb; subst e; exact hn ha⟩
theorem add1_len (ks : List κ) (k : κ) : (add1 ks k).length ≤ ks.length + 1 := by
  unfold add1
  split
  · omega
  · simp
theorem rowOf_pre (st : κ → Nat → κ) (m : κ) : ∀ (L : List Nat) (p : List κ × List Nat), p.1 <+: (rowOf st m L p).1
  | [], p => List.prefix_refl _
  | c :: cs, (ks, row) => (add1_pre ks (st m c)).trans (rowOf_pre st m cs (add1 ks (st m c), row ++ [num (add1 ks (st m c)) (st m c)]))
theorem rowOf_nodup (st : κ → Nat → κ) (m : κ) : ∀ (L : List Nat) (p : List κ × List Nat), p.1.Nodup → (rowOf st m L p).1.Nodup
  | [], p, h => h
  | c :: cs, (ks, row), h => rowOf_nodup st m cs _ (add1_nodup h)
theorem rowOf_len (st : κ → Nat → κ) (m : κ) : ∀ (L : List Nat) (p : List κ × List Nat), (rowOf st m L p).1.length ≤ p.1.length + L.length
  | [], p => Nat.le_refl _
  | c :: cs, (ks, row) => by
    have h1 := rowOf_len st m cs (add1 ks (st m c), row ++ [num (add1 ks (st m c)) (st m c)])
    have h2 := add1_len ks (st m c)
    show (rowOf st m cs (add1 ks (st m c), row ++ [num (add1 ks (st m c)) (st m c)])).1.length ≤ ks.length + (cs.length + 1)
    dsimp only at h1
    omega
theorem rowOf_row (st : κ → Nat → κ) (m : κ) : ∀ (L : List Nat) (p : List κ × List Nat), (rowOf st m L p).2.length = p.2.length + L.length
  | [], p => rfl
  | c :: cs, (ks, row) => by
    have h1 := rowOf_row st m cs (add1 ks (st m c), row ++ [num (add1 ks (st m c)) (st m c)])
    show (rowOf st m cs (add1 ks (st m c), row ++ [num (add1 ks (st m c)) (st m c)])).2.length = row.length + (cs.length + 1)
    rw [h1, List.length_append]
    show row.length + 1 + cs.length = row.length + (cs.length + 1)
    omega
theorem rowOf_append (st : κ → Nat → κ) (m : κ) : ∀ (L L' : List Nat) (p : List κ × List Nat), rowOf st m (L ++ L') p = rowOf st m L' (rowOf st m L p)
  | [], L', p => rfl
  | c :: cs, L', (ks, row) => rowOf_append st m cs L' _
theorem turn_pre (st : κ → Nat → κ) (L : List Nat) (p : List κ × List (List Nat)) : p.1 <+: (turn st L p).1 := by
  unfold turn
  split
  · exact List.prefix_refl _
  · exact rowOf_pre st _ L (p.1, [])
theorem turns_pre (st : κ → Nat → κ) (L : List Nat) (s0 : κ) : ∀ {i n : Nat}, i ≤ n → (turns st L s0 i).1 <+: (turns st L s0 n).1
  | i, 0, h => by
    have : i = 0 := by omega
    subst this
    exact List.prefix_refl _
  | i, n + 1, h => by
    by_cases e : i = n + 1
    · subst e; exact List.prefix_refl _
    · exact (turns_pre st L s0 (by omega : i ≤ n)).trans (turn_pre st L _)
theorem turns_len (st : κ → Nat → κ) (L : List Nat) (s0 : κ) {i n : Nat} (h : i ≤ n) : (turns st L s0 i).1.length ≤ (turns st L s0 n).1.length := (turns_pre st L s0 h).length_le
theorem turns_nodup (st : κ → Nat → κ) (L : List Nat) (s0 : κ) : ∀ n, (turns st L s0 n).1.Nodup
  | 0 => by simp [turns]
  | n + 1 => by
    show (turn st L (turns st L s0 n)).1.Nodup
    unfold turn
    split
    · exact turns_nodup st L s0 n
    · exact rowOf_nodup st _ L (_, []) (turns_nodup st L s0 n)
theorem turns_rows_le (st : κ → Nat → κ) (L : List Nat) (s0 : κ) : ∀ n, (turns st L s0 n).2.length ≤ (turns st L s0 n).1.length
  | 0 => by simp [turns]
  | n + 1 => by
    show (turn st L (turns st L s0 n)).2.length ≤ (turn st L (turns st L s0 n)).1.length
    unfold turn
    split
    · exact turns_rows_le st L s0 n
    · rename_i m hm
      have h1 := (List.getElem?_eq_some_iff.mp hm).1
      have h2 := (rowOf_pre st m L ((turns st L s0 n).1, [])).length_le
      rw [List.length_append]
      dsimp only at h2 ⊢
      rw [List.length_singleton]
      omega
/-- once as many rows as keys stand, nothing changes -/
theorem turn_stays (st : κ → Nat → κ) (L : List Nat) {p : List κ × List (List Nat)} (h : p.1.length ≤ p.2.length) : turn st L p = p := by
  unfold turn
  rw [List.getElem?_eq_none h]
theorem turns_stay (st : κ → Nat → κ) (L : List Nat) (s0 : κ) {i : Nat} (h : (turns st L s0 i).1.length ≤ (turns st L s0 i).2.length) : ∀ n, i ≤ n → turns st L s0 n = turns st L s0 i
  | 0, hn => by
    have : i = 0 := by omega
    subst this; rfl
  | n + 1, hn => by
    by_cases e : i = n + 1
    · subst e; rfl
    · have ih := turns_stay st L s0 h n (by omega)
      show turn st L (turns st L s0 n) = _
      rw [ih]
      exact turn_stays st L h
/-- while not all keys have a row, each turn adds one -/
theorem turns_rows (st : κ → Nat → κ) (L : List Nat) (s0 : κ) : ∀ {n : Nat}, (∀ i < n, (turns st L s0 i).2.length < (turns st L s0 i).1.length) → (turns st L s0 n).2.length = n
  | 0, _ => rfl
  | n + 1, h => by
    have ih := turns_rows st L s0 (n := n) fun i hi => h i (by omega)
    have hl := h n (by omega)
    show (turn st L (turns st L s0 n)).2.length = n + 1
    unfold turn
    rw [List.getElem?_eq_getElem hl]
    dsimp only
    rw [List.length_append, List.length_singleton, ih]
/-- what all is found, if no more than most keys come -/
theorem turns_done (st : κ → Nat → κ) (L : List Nat) (s0 : κ) {most : Nat} (h : (turns st L s0 most).1.length ≤ most) : (turns st L s0 most).2.length = (turns st L s0 most).1.length := by
  by_cases q : ∀ i < most, (turns st L s0 i).2.length < (turns st L s0 i).1.length
  · have h1 := turns_rows st L s0 q
    have h2 := turns_rows_le st L s0 most
    omega
  · simp only [Nat.not_lt, Classical.not_forall] at q
    obtain ⟨i, hi, hq⟩ := q
    have e := turns_stay st L s0 hq most (by omega)
    rw [e]
    have h2 := turns_rows_le st L s0 i
    omega
theorem num_lt {ks : List κ} {k : κ} (h : k ∈ ks) : num ks k < ks.length := List.idxOf_lt_length_iff.mpr h
theorem rowOf_all (st : κ → Nat → κ) (m : κ) : ∀ (L : List Nat) (p : List κ × List Nat), (∀ x ∈ p.2, x < p.1.length) → ∀ x ∈ (rowOf st m L p).2, x < (rowOf st m L p).1.length
  | [], p, h => h
  | c :: cs, (ks, row), h => rowOf_all st m cs (add1 ks (st m c), row ++ [num (add1 ks (st m c)) (st m c)]) fun x hx => by
    rcases List.mem_append.mp hx with q | q
    · exact Nat.lt_of_lt_of_le (h x q) (add1_pre ks (st m c)).length_le
    · rw [List.mem_singleton.mp q]
      exact num_lt add1_mem
theorem turns_all (st : κ → Nat → κ) (L : List Nat) (s0 : κ) : ∀ n, ∀ row ∈ (turns st L s0 n).2, row.length = L.length ∧ ∀ x ∈ row, x < (turns st L s0 n).1.length
  | 0, row, h => nomatch h
  | n + 1, row, h => by
    have ih := turns_all st L s0 n
    have hp := (turns_pre st L s0 (Nat.le_succ n)).length_le
    revert h hp
    show row ∈ (turn st L (turns st L s0 n)).2 → (turns st L s0 n).1.length ≤ (turn st L (turns st L s0 n)).1.length → row.length = L.length ∧ ∀ x ∈ row, x < (turn st L (turns st L s0 n)).1.length
    unfold turn
    split
    · intro h _
      exact ih row h
    · rename_i m hm
      intro h hp
      rcases List.mem_append.mp h with q | q
      · exact ⟨(ih row q).1, fun x hx => Nat.lt_of_lt_of_le ((ih row q).2 x hx) hp⟩
      · rw [List.mem_singleton.mp q]
        refine ⟨by rw [rowOf_row]; simp, rowOf_all st m L _ (fun x hx => nomatch hx)⟩
theorem rowOf_dm (st : κ → Nat → κ) {Dm : κ → Prop} {m : κ} (hm : Dm m) : ∀ (L : List Nat) (_ : ∀ k c, Dm k → c ∈ L → Dm (st k c)) (p : List κ × List Nat), (∀ k ∈ p.1, Dm k) → ∀ k ∈ (rowOf st m L p).1, Dm k
  | [], _, p, h => h
  | c :: cs, hD, (ks, row), h => rowOf_dm st hm cs (fun k d hk hd => hD k d hk (List.mem_cons_of_mem _ hd)) (add1 ks (st m c), row ++ [num (add1 ks (st m c)) (st m c)]) fun k hk => by
    have hk : k ∈ add1 ks (st m c) := hk
    unfold add1 at hk
    split at hk
    · exact h k hk
    · rcases List.mem_append.mp hk with q | q
      · exact h k q
      · rw [List.mem_singleton.mp q]; exact hD m c hm List.mem_cons_self
theorem turns_dm (st : κ → Nat → κ) (L : List Nat) (s0 : κ) {Dm : κ → Prop} (h0 : Dm s0) (hD : ∀ k c, Dm k → c ∈ L → Dm (st k c)) : ∀ n, ∀ k ∈ (turns st L s0 n).1, Dm k
  | 0, k, h => by rw [List.mem_singleton.mp h]; exact h0
  | n + 1, k, h => by
    have ih := turns_dm st L s0 h0 hD n
    revert h
    show k ∈ (turn st L (turns st L s0 n)).1 → Dm k
    unfold turn
    split
    · exact ih k
    · rename_i m hm
      exact rowOf_dm st (ih m (List.mem_of_getElem? hm)) L hD (_, []) ih k
/-! dicts from keys to their numbers -/
def nums (ks : List κ) : List (κ × V) := ks.zipIdx.map fun p => (p.1, V.int (p.2 : Int))
theorem nums_len (ks : List κ) : (nums ks).length = ks.length := by simp [nums]
theorem nums_snoc (ks : List κ) (k : κ) : nums (ks ++ [k]) = nums ks ++ [(k, V.int (ks.length : Int))] := by
  simp [nums, List.zipIdx_append]
theorem valV_append (k : κ) : ∀ (a b : List (κ × V)), valV (a ++ b) k = (valV a k).orElse fun _ => valV b k
  | [], b => rfl
  | p :: a, b => by
    by_cases e : p.1 = k
    · rw [List.cons_append, valV_pos e, valV_pos e]; rfl
    · rw [List.cons_append, valV_neg e, valV_neg e]; exact valV_append k a b
theorem valV_numsAt {k : κ} : ∀ (ks : List κ) (n : Nat), valV ((ks.zipIdx n).map fun p => (p.1, V.int (p.2 : Int))) k = if k ∈ ks then some (V.int ((n + ks.idxOf k : Nat) : Int)) else none
  | [], _ => rfl
  | x :: ks, n => by
    rw [List.zipIdx_cons, List.map_cons]
    by_cases e : x = k
    · subst e
      rw [valV_pos rfl, if_pos (by simp), List.idxOf_cons_self]
      rfl
    · have ex : ¬ k = x := fun z => e z.symm
      rw [valV_neg e, valV_numsAt ks (n + 1)]
      by_cases h : k ∈ ks
      · have e2 : (x :: ks).idxOf k = ks.idxOf k + 1 := by rw [List.idxOf_cons, beq_false_of_ne e]; rfl
        rw [if_pos h, if_pos (by simp [h]), e2]
        congr 2
        omega
      · rw [if_neg h, if_neg (by simp [h, ex])]
theorem valV_nums {k : κ} {ks : List κ} : valV (nums ks) k = if k ∈ ks then some (V.int (num ks k : Nat)) else none := by
  have := valV_numsAt (k := k) ks 0
  rw [Nat.zero_add] at this
  exact this
theorem putK_nums {ks : List κ} {k : κ} (h : k ∉ ks) : putK (nums ks) k (V.int (ks.length : Int)) = nums (ks ++ [k]) := by
  rw [nums_snoc, putK_new]
  rw [valV_nums, if_neg h]
end
/-! {k: v}, one pair, the key a tuple -/
def tDispT (tk tv : TE) : TE := fun σ H Q => ∀ p, H p = none → tPairs [(tk, tv)] σ (L2.upd H p (.dT [])) fun ps H2 => H2 p = some (.dT []) ∧
  ∃ (x : List Key) (b : Addr) (v : V), ps = [(.ref b, v)] ∧ H2 b = some (.tup (x.map kV)) ∧ Q (.ref p) (L2.upd H2 p (.dT [(x, v)]))
theorem Raised.aft {H H1 H' : Hp} {d : Addr} {f : Str} {v : V} (s : Same H H1) (r : Raised H1 H' d f v) : Raised H H' d f v := ⟨s.free r.1, r.2.1, s.trans r.2.2⟩
/-! kinds of keys: ints and texts; tuples of them -/
structure Kd (κ : Type) [DecidableEq κ] where
  at_ : Hp → V → κ → Prop
  dic : List (κ × V) → HO
  get : ∀ {H : Hp} {a : Addr} {v : V} {k : κ} {kvs : List (κ × V)}, H a = some (dic kvs) → at_ H v k → DGet H a v (valV kvs k)
  put : ∀ {H : Hp} {a : Addr} {v x : V} {k : κ} {kvs : List (κ × V)}, H a = some (dic kvs) → at_ H v k → kvs.length < sizeLine → DPut H a v x (L2.upd H a (dic (putK kvs k x)))
  isd : ∀ {H : Hp} {a : Addr} {kvs : List (κ × V)}, H a = some (dic kvs) → IsD H a
  keep : ∀ {H H' : Hp} {v : V} {k : κ}, at_ H v k → (∀ b xs, H b = some (.tup xs) → H' b = some (.tup xs)) → at_ H' v k
  some_ : ∀ {H : Hp} {v : V} {k : κ}, at_ H v k → v ≠ .non
  disp : ∀ {σ : L2.St} {H : Hp} {i : Nat} {Q : VK} {v : V} {k : κ} {n : Int}, σ[i]? = some (some v) → at_ H v k → (∀ p, H p = none → Q (.ref p) (L2.upd H p (dic [(k, .int n)]))) →
    tDisp [(tVar i, tC (.int n))] σ H Q ∨ tDispT (tVar i) (tC (.int n)) σ H Q
  notLst : ∀ kvs xs, dic kvs ≠ .lst xs
  notTup : ∀ kvs xs, dic kvs ≠ .tup xs
  notExt : ∀ kvs φ, dic kvs ≠ .ext φ
def kdK : Kd Key where
  at_ := fun _ v k => v = kV k
  dic := .dK
  get := fun e h => by rw [h]; exact DGet.k e
  put := fun e h l => by rw [h]; exact DPut.k e l
  isd := fun e => .inl ⟨_, .inl e⟩
  keep := fun h _ => h
  some_ := fun {H v k} h => by rw [h]; cases k <;> exact fun z => nomatch z
  disp := fun {σ H i Q v k n} e h q => .inl fun p hp => ⟨v, e, upd_same, [(k, .int n)], by rw [h]; rfl, by show 1 ≤ 15; omega, by rw [upd_upd]; exact q p hp⟩
  notLst := fun _ _ z => nomatch z
  notTup := fun _ _ z => nomatch z
  notExt := fun _ _ z => nomatch z
def kdT : Kd (List Key) where
  at_ := fun H v k => ∃ b, v = .ref b ∧ H b = some (.tup (k.map kV))
  dic := .dT
  get := fun e ⟨b, h1, h2⟩ => by rw [h1]; exact DGet.t e h2
  put := fun e ⟨b, h1, h2⟩ l => by rw [h1]; exact DPut.t e h2 l
  isd := fun e => .inr ⟨_, .inl e⟩
  keep := fun ⟨b, h1, h2⟩ k => ⟨b, h1, k _ _ h2⟩
  some_ := fun ⟨b, h1, _⟩ => by rw [h1]; exact fun z => nomatch z
  disp := fun {σ H i Q v k n} e ⟨b, h1, h2⟩ q => .inr fun p hp => ⟨v, e, upd_same, k, b, .int n, by rw [h1], by rw [upd_ne (ne_of_none h2 hp)]; exact h2, by rw [upd_upd]; exact q p hp⟩
  notLst := fun _ _ z => nomatch z
  notTup := fun _ _ z => nomatch z
  notExt := fun _ _ z => nomatch z
section
variable {X : Cx}
theorem pe_or {e : Expr} {t u : TE} (h : PE X e t) (g : PE X e u) : PE X e (fun σ H Q => t σ H Q ∨ u σ H Q) :=
  ⟨fun pins s σ H Q I q => q.elim (h.run pins s σ H Q I) (g.run pins s σ H Q I)⟩
theorem pe_dispT {k v : Expr} {tk tv : TE} {pos : Pos} (hu : X.A.units + 1 < cLine) (hk : PE X k tk) (hv : PE X v tv) : PE X (.Dict [some k] [v] pos) (tDispT tk tv) := by
  refine ⟨fun pins s σ H Q I q => ?_⟩
  have hn := I.hok.fresh (Nat.le_refl s.heap.objs.size)
  have I1 := I.laid (a := s.heap.objs.size) (o := .dT []) (h' := s.heap.push { cls := .type "dict", data := .dict #[] }) (t' := s.toks) (fun _ _ q => Heap.get?_push_of_some _ q) (Nat.le_refl _) (dt_empty s.heap I.big)
  have hp := pps_cons (pos := pos) hk hv (pps_nil (X := X) (pos := pos))
  have hall : ([some k] : List (Option Expr)).all (·.isSome) = true := rfl
  have h0 : pairTrees [some k] [v] X.env pos ≠ [] := fun e => by
    have := pairTrees_length [some k] [v] X.env pos hall rfl
    rw [e] at this
    cases this
  have h15 : (pairTrees [some k] [v] X.env pos).length ≤ 15 := by
    rw [pairTrees_length [some k] [v] X.env pos hall rfl]
    show 1 ≤ 15
    omega
  have hz := zip_pairTrees [some k] [v] X.env pos hall rfl
  rw [PySem.arm_eval_Dict, hz, PySem.dictDisplay_pairs _ h0 (by omega)]
  refine wpAny_bind (wpAny_standAt (wpAny_bind (PySem.wpAny_subDictH (knd := tupleKind (mixKind X.prog X.w)) (show X.A.units < cLine by omega) h15 (thn (hp.run pins _ σ _ _ I1 (q _ hn)) ?_))))
  rintro ws s2 ⟨ps, H2, I2, rel, e, x, b, vx, rfl, eb, q2⟩
  cases rel with
  | @cons _ pq _ _ r0 r1 =>
    cases r1
    obtain ⟨ku, vu⟩ := pq
    obtain ⟨rk, rv⟩ := r0
    have ek : ku = Value.ref b := rk
    subst ek
    obtain ⟨z, hd, xs0, r0, dd⟩ := dt_of I2.hok e
    cases r0
    refine ⟨[(x, b, vu)], ⟨rfl, rfl, key_of I2.hok eb, trivial⟩, dd, fun h' tk' dd' hs => wpAny_pure ⟨.ref s.heap.objs.size, _, ?_, rfl, q2⟩⟩
    obtain ⟨o, es, ep, ho, h2, h3, h4, h5, h6⟩ := dd'
    have nb : b ≠ s.heap.objs.size := ne_of eb e (fun z => nomatch z)
    have new : ObjOk X.prog X.w (L2.upd H2 s.heap.objs.size (.dT [(x, vx)])) h' s.heap.objs.size (.dT [(x, vx)]) := by
      refine ⟨by rw [sizeLine_eq]; show 1 ≤ _; decide, hd, [(x, b, vu)], .cons ⟨rfl, ?_, rv⟩ .nil, o, es, ep, ho, h2, h3, h4, h6⟩
      show L2.upd H2 s.heap.objs.size (.dT [(x, vx)]) b = some (.tup (x.map kV))
      rw [upd_ne nb]
      exact eb
    exact d_write I2 (by rw [e]; exact True.intro) hs ⟨o, ho⟩ new
end
end Vf
set_option Elab.async false
set_option linter.all false
set_option maxRecDepth 100000
set_option maxHeartbeats 4000000
/-! zip of two: lists, tuples, texts in any mix -/
namespace Vf
open PySem L2 PyProof.Rows
inductive Sr where
  | l (a : Addr) | t (a : Addr) | s (z : Str)
def Sr.v : Sr → V
  | .l a => .ref a
  | .t a => .ref a
  | .s z => .str z
def Sr.at_ : Sr → Option Addr
  | .l a => some a
  | .t a => some a
  | .s _ => none
def SrI (K : PySem.W.Frag) (H : Hp) : Sr → List V → Prop
  | .l a, xs => SqL K H a xs
  | .t a, xs => SqT K H a xs
  | .s z, xs => xs = (TL.tl z).map fun c => V.str (sg c)
def SrSt : Sr → Tok → Addr → Nat → Heap → Prop
  | .l a, _, it, i, h => h.IsListIter it a i
  | .t a, _, it, i, h => h.IsTupleIter it a i
  | .s z, t, it, i, h => h.IsStrIter it (strIterType z) z t i
theorem SrI.same {K : PySem.W.Frag} {H H' : Hp} {r : Sr} {xs : List V} (s : Same H H') (h : SrI K H r xs) : SrI K H' r xs := by
  cases r with
  | l a => exact s.seq h
  | t a =>
    have h : SqT K H a xs := h
    rcases h with (h | ⟨o, h⟩) | h
    · exact .inl (.inl (s _ _ h))
    · exact .inl (.inr ⟨o, s _ _ h⟩)
    · exact .inr h
  | s z => exact h
theorem srSt_obj {r : Sr} {t : Tok} {it : Addr} {i : Nat} {h : Heap} (st : SrSt r t it i h) : ∃ o, h.get? it = some o ∧ ∀ v, o.data ≠ .cell v := by
  cases r with
  | l a => obtain ⟨o, e, _, d⟩ := st; exact ⟨o, e, fun v q => by rw [d] at q; cases q⟩
  | t a => obtain ⟨o, e, _, d⟩ := st; exact ⟨o, e, fun v q => by rw [d] at q; cases q⟩
  | s z => obtain ⟨o, e, _, d⟩ := st; exact ⟨o, e, fun v q => by rw [d] at q; cases q⟩
theorem srSt_keep {r : Sr} {t : Tok} {it : Addr} {i : Nat} {h h' : Heap} (st : SrSt r t it i h) (k : ∀ o, h.get? it = some o → h'.get? it = some o) : SrSt r t it i h' := by
  cases r with
  | l a => exact Heap.IsListIter.at st k
  | t a => obtain ⟨o, e, q⟩ := st; exact ⟨o, k o e, q⟩
  | s z => obtain ⟨o, e, q⟩ := st; exact ⟨o, k o e, q⟩
/-- what one draws of it -/
structure Dr (X : Cx) (r : Sr) (t : Tok) (it : Addr) (i : Nat) (xs : List V) (s : Shared) (n : Nat) (P : Nat → Value → Prop) (St : Nat → Heap → Prop) (fp : List Addr) : Prop where
  d : Draws X.prog X.w X.A.in1 it fp n P St
  st : St i s.heap
  n_ : n = xs.length
  p_ : ∀ j v, P j v → ∃ x, xs[j]? = some x ∧ RelV x v
  nx : ∀ h', St (i + 1) h' → SrSt r t it (i + 1) h'
  fp_ : ∀ b ∈ fp, b = it ∨ r.at_ = some b
  mem : it ∈ fp
theorem sr_draw {X : Cx} {pins : List (Addr × Obj)} {σ : L2.St} {H : Hp} {s : Shared} {r : Sr} {t : Tok} {it : Addr} {i : Nat} {xs : List V} (I : Inv X pins σ H s) (hh : X.A.handled = none) (e : SrI X.K H r xs) (st : SrSt r t it i s.heap) (na : ∀ a, r.at_ = some a → a ≠ it) :
    ∃ n P St fp, Dr X r t it i xs s n P St fp := by
  cases r with
  | l a =>
    obtain ⟨its, rv, p, _⟩ := I.list e
    refine ⟨_, _, _, _, ⟨Draws.list (prog := X.prog) (w := X.w) (A := X.A.in1) hh it a (na a rfl) its.toArray, ⟨st, p.isList⟩, by simpa using rv.length.symm, fun j v hv => ?_, fun h' q => q.1, fun b hb => ?_, by simp⟩⟩
    · have hv : its[j]? = some v := by simpa using hv
      have hj : j < xs.length := by
        have := (List.getElem?_eq_some_iff.mp hv).1
        rw [rv.length]; exact this
      obtain ⟨u, hu, ru⟩ := rv.get (List.getElem?_eq_getElem hj)
      rw [hv] at hu; cases hu
      exact ⟨_, List.getElem?_eq_getElem hj, ru⟩
    · simp at hb
      rcases hb with z | z
      · exact .inl z
      · exact .inr (by rw [z]; rfl)
  | t a =>
    obtain ⟨its, rv, p, _⟩ := I.tuple e
    refine ⟨_, _, _, _, ⟨Draws.tuple (prog := X.prog) (w := X.w) (A := X.A.in1) hh it a (na a rfl) its.toArray, ⟨st, p⟩, by simpa using rv.length.symm, fun j v hv => ?_, fun h' q => q.1, fun b hb => ?_, by simp⟩⟩
    · have hv : its[j]? = some v := by simpa using hv
      have hj : j < xs.length := by
        have := (List.getElem?_eq_some_iff.mp hv).1
        rw [rv.length]; exact this
      obtain ⟨u, hu, ru⟩ := rv.get (List.getElem?_eq_getElem hj)
      rw [hv] at hu; cases hu
      exact ⟨_, List.getElem?_eq_getElem hj, ru⟩
    · simp at hb
      rcases hb with z | z
      · exact .inl z
      · exact .inr (by rw [z]; rfl)
  | s z =>
    have e : xs = (TL.tl z).map fun c => V.str (sg c) := e
    refine ⟨_, _, _, _, ⟨Draws.text (prog := X.prog) (w := X.w) (A := X.A.in1) hh it z t, st, by rw [e, List.length_map]; exact TL.len_tl z, fun j v hv => ?_, fun h' q => q, fun b hb => ?_, by simp⟩⟩
    · obtain ⟨c, u, h1, rfl⟩ := hv
      refine ⟨.str (sg c), ?_, ⟨u, rfl⟩⟩
      have h2 : (TL.tl z)[j]? = some c := by simpa using h1
      rw [e, List.getElem?_map, h2]
      rfl
    · simp at hb
      exact .inl hb
theorem sr_inj {X : Cx} {pins : List (Addr × Obj)} {σ : L2.St} {H : Hp} {s : Shared} {r : Sr} {xs ys : List V} (I : Inv X pins σ H s) (e : SrI X.K H r xs) (e2 : SrI X.K H r ys) : xs = ys := by
  cases r with
  | l a => exact I.list_inj e e2
  | t a => exact I.tuple_inj e e2
  | s z => exact Eq.trans e (Eq.symm e2)
def Itzz (K : PySem.W.Frag) (a b : Sr) : It :=
  ⟨fun i H => ∃ xs ys, SrI K H a xs ∧ SrI K H b ys ∧ i < xs.length ∧ i < ys.length,
   fun i H v H' => ∃ T x y, v = .ref T ∧ H T = none ∧ H' = L2.upd H T (.tup [x, y]) ∧ (∀ xs, SrI K H a xs → xs[i]? = some x) ∧ (∀ ys, SrI K H b ys → ys[i]? = some y),
   fun i H => ∃ xs ys, SrI K H a xs ∧ SrI K H b ys ∧ i ≤ xs.length ∧ i ≤ ys.length ∧ (i = xs.length ∨ i = ys.length)⟩
/-- the five cells of a zip, and the two sources, apart -/
structure ZA (z TI TO i1 i2 : Addr) (a b : Sr) : Prop where
  n1 : TI ≠ z
  n2 : TO ≠ z
  n3 : TI ≠ TO
  n4 : TI ≠ i1
  n5 : TI ≠ i2
  n6 : z ≠ i1
  n7 : z ≠ i2
  n8 : TO ≠ i1
  n9 : TO ≠ i2
  n10 : i1 ≠ i2
  a_ : ∀ c, a.at_ = some c → c ≠ z ∧ c ≠ TO ∧ c ≠ i1 ∧ c ≠ i2
  b_ : ∀ c, b.at_ = some c → c ≠ z ∧ c ≠ TO ∧ c ≠ i1 ∧ c ≠ i2
theorem ZA.sep {z TI TO i1 i2 : Addr} {a b : Sr} {fp1 fp2 : List Addr} (D : ZA z TI TO i1 i2 a b) (h1 : ∀ c ∈ fp1, c = i1 ∨ a.at_ = some c) (m1 : i1 ∈ fp1) (h2 : ∀ c ∈ fp2, c = i2 ∨ b.at_ = some c) (m2 : i2 ∈ fp2) : ZipSep2 z TI TO i1 i2 fp1 fp2 := by
  refine ⟨D.n1, D.n2, D.n3, D.n4, m1, fun h => ?_, fun h => ?_, D.n5, m2, fun h => ?_, fun h => ?_, fun h => ?_, fun h => ?_⟩
  · exact (h1 _ h).elim D.n6 fun e => (D.a_ _ e).1 rfl
  · exact (h1 _ h).elim D.n8 fun e => (D.a_ _ e).2.1 rfl
  · exact (h2 _ h).elim D.n7 fun e => (D.b_ _ e).1 rfl
  · exact (h2 _ h).elim D.n9 fun e => (D.b_ _ e).2.1 rfl
  · exact (h2 _ h).elim D.n10 fun e => (D.b_ _ e).2.2.1 rfl
  · exact (h1 _ h).elim (fun q => D.n10 q.symm) fun e => (D.a_ _ e).2.2.2 rfl
theorem turn_zz {P : Program} {w : World} {K : PySem.W.Frag} {elts : List Expr} {kk : Nat} {tpos : Pos} {a b : Sr} {t1 t2 : Tok} {z TI TO i1 i2 : Addr} (D : ZA z TI TO i1 i2 a b) :
    Turn P w K (.Tuple elts kk tpos) (Itzz K a b) [z, TI, TO, i1, i2] z (fun i h => IsZip h z TI TO .none ∧ IsTupOf2 h TI (.ref i1) (.ref i2) ∧ (∃ x y, IsTupOf2 h TO x y) ∧ SrSt a t1 i1 i h ∧ SrSt b t2 i2 i h) where
  mem := by simp
  obj := fun i h st c hc => by
    obtain ⟨hz, hTI, ⟨x, y, hTO⟩, s1, s2⟩ := st
    obtain ⟨o1, e1, d1⟩ := srSt_obj s1
    obtain ⟨o2, e2, d2⟩ := srSt_obj s2
    have e' : c = z ∨ c = TI ∨ c = TO ∨ c = i1 ∨ c = i2 := by simpa using hc
    rcases e' with rfl | rfl | rfl | rfl | rfl
    · exact ⟨_, hz, fun v q => nomatch q⟩
    · exact ⟨_, hTI, fun v q => nomatch q⟩
    · exact ⟨_, hTO, fun v q => nomatch q⟩
    · exact ⟨o1, e1, d1⟩
    · exact ⟨o2, e2, d2⟩
  keep := fun i h h' st k => by
    obtain ⟨hz, hTI, ⟨x, y, hTO⟩, s1, s2⟩ := st
    exact ⟨k z (by simp) _ hz, k TI (by simp) _ hTI, ⟨x, y, k TO (by simp) _ hTO⟩, srSt_keep s1 fun o q => k i1 (by simp) o q, srSt_keep s2 fun o q => k i2 (by simp) o q⟩
  item := by
    intro X hP hw hK hc i pins s σ H E I hf st hg
    subst hP hw hK
    obtain ⟨hz, hTI, ⟨x0, y0, hTO⟩, s1, s2⟩ := st
    obtain ⟨xs, ys, ea, eb, l1, l2⟩ := hg
    have hh := I.ok.hd hc
    obtain ⟨n1, P1, St1, fp1, D1⟩ := sr_draw (t := t1) I hh ea s1 fun c e => (D.a_ c e).2.2.1
    obtain ⟨n2, P2, St2, fp2, D2⟩ := sr_draw (t := t2) I hh eb s2 fun c e => (D.b_ c e).2.2.2
    have hzl : z < s.heap.objs.size := Heap.lt_size hz
    refine wpAny_pyNext_zipD2_item (D.sep D1.fp_ D1.mem D2.fp_ D2.mem) D1.d D2.d hz hTI hTO D1.st D2.st (by rw [D1.n_]; exact l1) (by rw [D2.n_]; exact l2) fun u u2 h' tk p1 p2 z' TO' h1' h2' hT hsz hk => ?_
    obtain ⟨x, hx, ru⟩ := D1.p_ _ _ p1
    obtain ⟨y, hy, ru2⟩ := D2.p_ _ _ p2
    refine ⟨_, rfl, wpAny_letOwnedTupleGo_zip (s := { s with heap := h', toks := tk }) z' fun h'' z'' sb => ?_⟩
    have hT2 : h''.get? s.heap.objs.size = some { cls := .type "tuple", data := .seq #[u, u2] } := (sb.2 _ (Nat.ne_of_gt hzl)).trans hT
    have new : ObjOk X.prog X.w (L2.upd H s.heap.objs.size (.tup [x, y])) h'' s.heap.objs.size (.tup [x, y]) :=
      ⟨by show 2 ≤ sizeLine; decide, [u, u2], .cons ru (.cons ru2 .nil), ⟨_, hT2, rfl, _, rfl⟩⟩
    have I1 : Inv X pins σ (L2.upd H s.heap.objs.size (.tup [x, y])) { s with heap := h'', toks := tk } :=
      I.turnedNew (t' := tk) (ch := [z, TI, TO, i1, i2]) (fun c o hb q => (sb.2 c (fun q' => hb (by simp [q']))).trans (hk c o (fun q' => hb (by simp [q'])) (fun q' => hb (by simp [q'])) (fun q' => hb (by simp [q'])) (fun q' => hb (by simp [q'])) q)) hf (Nat.le_refl _) new
    have kTI : h'.get? TI = some { cls := .type "tuple", data := .seq #[.ref i1, .ref i2] } := hk _ _ D.n1 D.n3 D.n4 D.n5 hTI
    refine ⟨.ref s.heap.objs.size, _, I1, rfl, ⟨_, x, y, rfl, I.hok.fresh (Nat.le_refl _), rfl, fun l hl => by rw [sr_inj I hl ea]; exact hx, fun l hl => by rw [sr_inj I hl eb]; exact hy⟩, ⟨z'', (sb.2 _ D.n1).trans kTI, ⟨u, u2, (sb.2 _ D.n2).trans TO'⟩, srSt_keep (D1.nx _ h1') fun o q => (sb.2 _ D.n6.symm).trans q, srSt_keep (D2.nx _ h2') fun o q => (sb.2 _ D.n7.symm).trans q⟩, fun c hcm => ?_⟩
    obtain ⟨o1, e1, _⟩ := srSt_obj s1
    obtain ⟨o2, e2, _⟩ := srSt_obj s2
    have hlt : c < s.heap.objs.size := by
      have e' : c = z ∨ c = TI ∨ c = TO ∨ c = i1 ∨ c = i2 := by simpa using hcm
      rcases e' with rfl | rfl | rfl | rfl | rfl
      · exact hzl
      · exact Heap.lt_size hTI
      · exact Heap.lt_size hTO
      · exact Heap.lt_size e1
      · exact Heap.lt_size e2
    rw [upd_ne (Nat.ne_of_lt hlt)]
    exact (hf c hcm).1
  done := by
    intro X hP hw hK hc i pins s σ H E I hf st hg
    subst hP hw hK
    obtain ⟨hz, hTI, ⟨x0, y0, hTO⟩, s1, s2⟩ := st
    obtain ⟨xs, ys, ea, eb, l1, l2, hend⟩ := hg
    have hh := I.ok.hd hc
    obtain ⟨n1, P1, St1, fp1, D1⟩ := sr_draw (t := t1) I hh ea s1 fun c e => (D.a_ c e).2.2.1
    obtain ⟨n2, P2, St2, fp2, D2⟩ := sr_draw (t := t2) I hh eb s2 fun c e => (D.b_ c e).2.2.2
    refine wpAny_pyNext_zipD2_end (D.sep D1.fp_ D1.mem D2.fp_ D2.mem) D1.d D2.d hz hTI hTO D1.st D2.st (by rw [D1.n_]; exact l1) (by rw [D2.n_]; exact l2) (by rw [D1.n_, D2.n_]; exact hend) fun h' tk hk => ⟨rfl, ?_⟩
    exact I.turnedL (t' := tk) (ch := [z, TI, TO, i1, i2]) (fun c o hb q => hk c o (fun q' => hb (by simp [q'])) (fun q' => hb (by simp [q'])) (fun q' => hb (by simp [q'])) (fun q' => hb (by simp [q'])) q) hf
  self := fun A i s Q E st h => wpAny_pyIter_zip st.1 h
def iZz (K : PySem.W.Frag) (ta : TA) : TI := fun σ H R => ta σ H fun vs H1 => ∃ a b xs ys, vs = [a.v, b.v] ∧ SrI K H1 a xs ∧ SrI K H1 b ys ∧ R (Itzz K a b) H1
theorem sr_begin {X : Cx} {pins : List (Addr × Obj)} {σ : L2.St} {H : Hp} {s : Shared} {r : Sr} {xs : List V} {u : Value} (I : Inv X pins σ H s) (e : SrI X.K H r xs) (ru : RelV r.v u) :
    ∃ (o : Obj) (Hq : Heap → Prop) (t : Tok), Begins u o Hq ∧ Hq s.heap ∧ (∀ it h, h.get? it = some o → SrSt r t it 0 h) ∧ ∀ a, r.at_ = some a → a < s.heap.objs.size := by
  cases r with
  | l a =>
    obtain ⟨its, rv, p, _⟩ := I.list e
    obtain rfl : u = Value.ref a := ru
    refine ⟨_, _, 0, begins_list a its.toArray, p.isList, fun it h q => ⟨_, q, rfl, rfl⟩, fun b hb => ?_⟩
    cases hb
    exact p.lt
  | t a =>
    obtain ⟨its, rv, p, _⟩ := I.tuple e
    obtain rfl : u = Value.ref a := ru
    refine ⟨_, _, 0, begins_tuple a its.toArray, p, fun it h q => ⟨_, q, rfl, rfl⟩, fun b hb => ?_⟩
    cases hb
    exact p.lt
  | s z =>
    obtain ⟨t, rfl⟩ := ru
    exact ⟨_, _, t, begins_text z t, trivial, fun it h q => ⟨_, q, rfl, rfl⟩, fun b hb => nomatch hb⟩
theorem pi_zz {X : Cx} {e e2 : Expr} {ta : TA} {p pos tpos : Pos} {elts : List Expr} {kk : Nat} (hg : Gl X "zip") (hm : X.mg "zip" = none) (ha : PA X [e, e2] ta)
    (hs : starEach [e, e2] X.env = (false, eval e X.env) :: starEach [e2] X.env := by rfl) (hpl : (backTo pos (starEach [e2] X.env)).any (·.1) = false := by rfl) :
    PI X (.Tuple elts kk tpos) (.Call (.Name "zip" p) [e, e2] [] pos) (iZz X.K ta) := by
  refine ⟨fun pins s σ H R I h => ?_⟩
  refine Call_ (ld_blt I hg hm PyProof.Rows.boot_zip (PyProof.Rows.callWith_type1 (thn (ha.run pos pins s σ H _ I h) fun us s1 ⟨vs, H1, I1, r1, q1⟩ => ?_) hs hpl))
  obtain ⟨a, b, xs, ys, ex, ea, eb, q⟩ := q1
  subst ex
  cases r1 with
  | @cons _ u _ _ r rr =>
    cases rr with
    | @cons _ u2 _ _ r' rr =>
      cases rr
      obtain ⟨o1, H1q, t1, B1, h1, k1, la⟩ := sr_begin I1 ea r
      obtain ⟨o2, H2q, t2, B2, h2, k2, lb⟩ := sr_begin I1 eb r'
      refine zip_begins2 B1 B2 h1 h2 fun h' hz hTI hTO g1 g2 hsz hk => wpAny_pyIter_zip hz ?_
      have I2 : Inv X pins σ H1 { s1 with heap := h' } := I1.kept (t' := s1.toks) hk
      generalize hN : s1.heap.objs.size = N at *
      have D : ZA (N + 4) (N + 2) (N + 3) N (N + 1) a b := ⟨by simp, by simp, by simp, by simp, by simp, by simp, by simp, by simp, by simp, by simp,
        fun c e => by have := la c e; exact ⟨by intro z; subst z; exact absurd this (by simp), by intro z; subst z; exact absurd this (by simp), by intro z; subst z; exact absurd this (by simp), by intro z; subst z; exact absurd this (by simp)⟩,
        fun c e => by have := lb c e; exact ⟨by intro z; subst z; exact absurd this (by simp), by intro z; subst z; exact absurd this (by simp), by intro z; subst z; exact absurd this (by simp), by intro z; subst z; exact absurd this (by simp)⟩⟩
      refine ⟨N + 4, [N + 4, N + 2, N + 3, N, N + 1], _, _, H1, rfl, I2, turn_zz (t1 := t1) (t2 := t2) D, ⟨hz, hTI, ⟨_, _, hTO⟩, k1 _ _ g1, k2 _ _ g2⟩, fun c hcm => ?_, q⟩
      have hle : s1.heap.objs.size ≤ c := by
        rw [hN]
        have e' : c = N + 4 ∨ c = N + 2 ∨ c = N + 3 ∨ c = N ∨ c = N + 1 := by simpa using hcm
        rcases e' with rfl | rfl | rfl | rfl | rfl <;> simp
      exact I1.fpOk hle (I1.hok.fresh hle)
/-- as a walk: both stand still -/
theorem walk_zz {K : PySem.W.Frag} {a b : Sr} {xs ys : List V} {n : Nat} (hn : n = min xs.length ys.length) :
    Walk (Itzz K a b) n (fun H => SrI K H a xs ∧ SrI K H b ys) (fun i H v H' => ∃ T x y, v = .ref T ∧ H T = none ∧ H' = L2.upd H T (.tup [x, y]) ∧ xs[i]? = some x ∧ ys[i]? = some y) :=
  ⟨fun i H hi g => ⟨xs, ys, g.1, g.2, by omega, by omega⟩, fun H g => ⟨xs, ys, g.1, g.2, by omega, by omega, by omega⟩, fun i H v H' hi g y => by
    obtain ⟨T, x, y, e1, e2, e3, h1, h2⟩ := y
    exact ⟨T, x, y, e1, e2, e3, h1 _ g.1, h2 _ g.2⟩⟩
end Vf
set_option Elab.async false
set_option linter.all false
set_option maxRecDepth 100000
set_option maxHeartbeats 4000000
/-! what stays where functions are made and cells are shown -/
namespace Vf
open PySem L2 PyProof.Rows NdefX LamX
theorem same_shw {cs : Cs} {H : Hp} (hn : ∀ c o, cs.lookup c = some o → H c = none) : Same H (shw cs H) := fun b u e => by
  cases q : cs.lookup b with
  | some y => rw [hn b y q] at e; cases e
  | none => rw [shw_out q]; exact e
theorem same_hid {cs : Cs} {H1 H2 : Hp} (hn : ∀ c o, cs.lookup c = some o → H1 c = none) (s : Same (shw cs H1) H2) : Same H1 (hid cs H2) := fun b u e => by
  cases q : cs.lookup b with
  | some y => rw [hn b y q] at e; cases e
  | none =>
    rw [hid_out q]
    exact s b u (by rw [shw_out q]; exact e)
theorem held_same {cs : Cs} {H1 H2 : Hp} (s : Same (shw cs H1) H2) : HeldC cs H2 := fun c o e => s _ _ (shw_in e)
theorem same_up {cs : Cs} {H H' : Hp} (hc : HeldC cs H) (s : Same (hid cs H) H') : Same H (shw cs H') := fun b u e => by
  cases q : cs.lookup b with
  | some y =>
    rw [hc b y q] at e
    rw [shw_in q]; exact e
  | none =>
    rw [shw_out q]
    exact s b u (by rw [hid_out q]; exact e)
/-- what is no cell is not hidden -/
theorem hid_keep {cs : Cs} {H : Hp} {b : Addr} {u : HO} (hc : HeldC cs H) (e : H b = some u) (n : ∀ φ, u ≠ .ext φ) : hid cs H b = some u := by
  rw [hid_out (hc.out e fun x z => n _ z)]; exact e
theorem shw_keep {cs : Cs} {H : Hp} {b : Addr} {u : HO} (hn : ∀ c o, cs.lookup c = some o → H c = none) (e : H b = some u) : shw cs H b = some u := same_shw hn _ _ e
theorem hid_shw {cs : Cs} {H : Hp} (hn : ∀ c o, cs.lookup c = some o → H c = none) : hid cs (shw cs H) = H := by
  funext b
  cases q : cs.lookup b with
  | some y => rw [hid_in q, hn b y q]
  | none => rw [hid_out q, shw_out q]
/-- it stays true where all stays but tables -/
def Stab (S : Hp → Prop) : Prop := ∀ H H' : Hp, S H → ExtN H H' → S H'
theorem Stab.same {S : Hp → Prop} (h : Stab S) {H H' : Hp} (s : Same H H') (q : S H) : S H' := h H H' q (ExtN.of fun b o e => s b o e)
theorem Stab.and {S S' : Hp → Prop} (h : Stab S) (h' : Stab S') : Stab fun H => S H ∧ S' H := fun H H' q k => ⟨h H H' q.1 k, h' H H' q.2 k⟩
theorem Stab.hid {S : Hp → Prop} (h : Stab S) (cs : Cs) : Stab fun H => S (Vf.hid cs H) := fun H H' q k => h _ _ q fun b o e n => by
  obtain ⟨q1, q2⟩ := hid_some e
  rw [hid_out q1]; exact k b o q2 n
theorem stab_heldF (f : Addr) (F : NF) (cs : Cs) : Stab (HeldF f F cs) := fun H H' q k => ⟨k _ _ q.fn (fun _ z => nomatch z), k _ _ q.code (fun _ z => nomatch z), fun c o e => k _ _ (q.cells c o e) (fun _ z => nomatch z)⟩
theorem stab_heldL (f : Addr) (F : NF) (e : Expr) (cs : Cs) : Stab (HeldL f F e cs) := fun H H' q k => ⟨k _ _ q.fn (fun _ z => nomatch z), k _ _ q.code (fun _ z => nomatch z), fun c o e => k _ _ (q.cells c o e) (fun _ z => nomatch z)⟩
theorem stab_true : Stab fun _ => True := fun _ _ _ _ => trivial
theorem stab_at (a : Addr) (o : HO) (n : ∀ ps, o ≠ .tbl ps) : Stab fun H => H a = some o := fun H H' q k => k a o q n
/-- all stays but the tables of code objects, and these stay tables -/
structure SameT (T : List NTab) (H H' : Hp) : Prop where
  ext : ExtN H H'
  back : ∀ b, H' b = none → H b = none
  tab : TabsN T H'
theorem SameT.of {T : List NTab} {H H' : Hp} (s : Same H H') (t : TabsN T H) : SameT T H H' := ⟨fun b o e _ => s b o e, fun b e => s.free e, t.ext fun b o e => s b o e⟩
theorem SameT.trans {T : List NTab} {H H1 H2 : Hp} (a : SameT T H H1) (b : SameT T H1 H2) : SameT T H H2 := ⟨a.ext.trans b.ext, fun c e => a.back c (b.back c e), b.tab⟩
theorem SameT.stab {T : List NTab} {H H' : Hp} {S : Hp → Prop} (s : SameT T H H') (h : Stab S) (q : S H) : S H' := h H H' q s.ext
theorem SameT.at_ {T : List NTab} {H H' : Hp} {κ : Type} [DecidableEq κ] {kd : Kd κ} {v : V} {k : κ} (s : SameT T H H') (h : kd.at_ H v k) : kd.at_ H' v k := kd.keep h fun b xs e => s.ext _ _ e fun _ z => nomatch z
theorem SameT.kl {T : List NTab} {H H' : Hp} (s : SameT T H H') : Kl H H' := fun b o e d => s.ext b o e fun ps z => by rw [z] at d; exact d
theorem kd_hid {κ : Type} [DecidableEq κ] {kd : Kd κ} {cs : Cs} {H : Hp} {v : V} {k : κ} (hc : HeldC cs H) (h : kd.at_ H v k) : kd.at_ (hid cs H) v k := kd.keep h fun b xs e => hid_keep hc e fun _ z => nomatch z
theorem kd_shw {κ : Type} [DecidableEq κ] {kd : Kd κ} {cs : Cs} {H : Hp} {v : V} {k : κ} (hn : ∀ c o, cs.lookup c = some o → H c = none) (h : kd.at_ H v k) : kd.at_ (shw cs H) v k := kd.keep h fun b xs e => shw_keep hn e
/-- a cell is no code object -/
theorem cellX_code {c : Addr} {o : Obj} {q : Str} {v : Option Value} (hd : o.data = .cell v) : CellX c o ≠ CodeO c q := fun z => by
  unfold CellX CodeO at z
  have z2 := HO.ext.inj z
  have e : ({ objs := Array.replicate (c + 1) o } : Heap).get? c = some o := by
    unfold Heap.get?
    have : (Array.replicate (c + 1) o)[c]? = some o := by simp
    rw [this]
    obtain ⟨a, b, d, sl⟩ := o
    have hd : d = .cell v := hd
    subst hd
    rfl
  have h1 := congrFun z2 ({ objs := Array.replicate (c + 1) o } : Heap)
  have h2 : ∃ (oc : Obj) (vs : Array Value) (t : Tok), ({ objs := Array.replicate (c + 1) o } : Heap).get? c = some oc ∧ oc.data = .fields vs ∧ vs[1]? = some (.str q t) := by
    rw [← h1]; exact e
  obtain ⟨oc, vs, t, a1, a2, a3⟩ := h2
  rw [e] at a1
  cases a1
  rw [hd] at a2
  cases a2
def CellsData (cs : Cs) : Prop := ∀ c o, cs.lookup c = some o → ∃ v, o.data = .cell v
theorem CapX.data {X : Cx} {σ : L2.St} {cs : Cs} (h : CapX X σ cs) : CellsData cs := fun c o e => (h.dom c o e).1
theorem tabs_hid {T : List NTab} {cs : Cs} {H : Hp} (hd : CellsData cs) (hc : HeldC cs H) (t : TabsN T H) : TabsN T (hid cs H) := fun p hp => by
  obtain ⟨ps, h1, h2, h3⟩ := t p hp
  refine ⟨ps, hid_keep hc h1 (fun _ z => nomatch z), h2, fun pos cv e => ?_⟩
  obtain ⟨c, e1, e2⟩ := h3 pos cv e
  refine ⟨c, e1, ?_⟩
  cases q : cs.lookup c with
  | none => rw [hid_out q]; exact e2
  | some o =>
    obtain ⟨v, hv⟩ := hd c o q
    rw [hc c o q] at e2
    exact absurd (Option.some.inj e2) (cellX_code hv)
theorem sameT_hid {T : List NTab} {cs : Cs} {H1 H2 : Hp} (hd : CellsData cs) (hn : ∀ c o, cs.lookup c = some o → H1 c = none) (s : SameT T (shw cs H1) H2) : HeldC cs H2 ∧ SameT T H1 (hid cs H2) := by
  have hh : HeldC cs H2 := fun c o e => s.ext _ _ (shw_in e) fun _ z => nomatch z
  refine ⟨hh, fun b u e n => ?_, fun b e => ?_, tabs_hid hd hh s.tab⟩
  · cases q : cs.lookup b with
    | some y => rw [hn b y q] at e; cases e
    | none =>
      rw [hid_out q]
      exact s.ext b u (by rw [shw_out q]; exact e) n
  · cases q : cs.lookup b with
    | some y => exact hn b y q
    | none =>
      rw [hid_out q] at e
      have := s.back b e
      rw [shw_out q] at this
      exact this
theorem kl_hid {cs : Cs} {H : Hp} (hc : HeldC cs H) : Kl H (hid cs H) := fun b o e d => hid_keep hc e fun φ z => by rw [z] at d; exact d
/-- all that the nested one captures are cells of the def -/
def cellsB (sc nsc : Scope) : Bool := nsc.names.all fun y => !decide (y.2 = .free) || decide (sc.names.lookup y.1 = some .cell)
theorem cells_free {sc nsc : Scope} (h : cellsB sc nsc = true) : ∀ y ∈ nsc.names, y.2 = .free → sc.names.lookup y.1 = some .cell := fun y hy e => by
  have := List.all_eq_true.mp h y hy
  rw [e] at this
  simpa using this
theorem tup_hid {cs : Cs} {H : Hp} {b : Addr} {xs : List V} (hc : HeldC cs H) (e : H b = some (.tup xs)) : hid cs H b = some (.tup xs) := hid_keep hc e fun _ z => nomatch z
theorem lst_hid {cs : Cs} {H : Hp} {b : Addr} {xs : List V} (hc : HeldC cs H) (e : H b = some (.lst xs)) : hid cs H b = some (.lst xs) := hid_keep hc e fun _ z => nomatch z
def Forall2 {α β : Type} (R : α → β → Prop) (xs : List α) (ys : List β) : Prop := xs.length = ys.length ∧ ∀ (i : Nat) (x : α) (y : β), xs[i]? = some x → ys[i]? = some y → R x y
theorem Forall2.snoc {α β : Type} {R : α → β → Prop} {xs : List α} {ys : List β} {x : α} {y : β} (h : Forall2 R xs ys) (g : R x y) : Forall2 R (xs ++ [x]) (ys ++ [y]) := by
  obtain ⟨h1, h2⟩ := h
  refine ⟨by simp [h1], fun i a b e1 e2 => ?_⟩
  by_cases hi : i < xs.length
  · rw [List.getElem?_append_left hi] at e1
    rw [List.getElem?_append_left (by omega)] at e2
    exact h2 i a b e1 e2
  · rw [List.getElem?_append_right (by omega)] at e1
    rw [List.getElem?_append_right (by omega)] at e2
    have : i - xs.length = 0 := by
      cases q : i - xs.length with
      | zero => rfl
      | succ n => rw [q] at e1; cases e1
    rw [this] at e1
    have h3 : i - ys.length = 0 := by omega
    rw [h3] at e2
    cases e1; cases e2
    exact g
theorem Forall2.imp {α β : Type} {R S : α → β → Prop} {xs : List α} {ys : List β} (h : Forall2 R xs ys) (g : ∀ x y, x ∈ xs → R x y → S x y) : Forall2 S xs ys := ⟨h.1, fun i x y e1 e2 => g x y (List.mem_of_getElem? e1) (h.2 i x y e1 e2)⟩
theorem Forall2.get {α β : Type} {R : α → β → Prop} {xs : List α} {ys : List β} (h : Forall2 R xs ys) {i : Nat} {y : β} (e : ys[i]? = some y) : ∃ x, xs[i]? = some x ∧ R x y := by
  have hi : i < xs.length := by rw [h.1]; exact (List.getElem?_eq_some_iff.mp e).1
  exact ⟨_, List.getElem?_eq_getElem hi, h.2 i _ y (List.getElem?_eq_getElem hi) e⟩
end Vf
set_option Elab.async false
set_option linter.all false
set_option maxRecDepth 100000
set_option maxHeartbeats 4000000
/-! walks of a column over a code's rows -/
namespace Vf
open PySem L2 PyProof.Rows
theorem take_more {α : Type} {l : List α} {i : Nat} (h : i < l.length) : l.take (i + 1) = l.take i ++ [l[i]] := by
  rw [List.take_add_one, List.getElem?_eq_getElem h]; rfl
/-- what a column leaves: the state and the bits, by the rows -/
def stepR (rs : List Row) (z : List Nat) (s : Int × Int) (c : Nat) : Int × Int :=
  let gb := ((rs.getD s.1.toNat []).getD (z.idxOf c) (0, 0))
  (gb.1, s.2 + gb.2)
def walkR (rs : List Row) (z : List Nat) (s : Int) (y : List Nat) : Int × Int := y.foldl (stepR rs z) (s, 0)
theorem walkR_more {rs : List Row} {z y : List Nat} {s : Int} {i : Nat} (h : i < y.length) : walkR rs z s (y.take (i + 1)) = stepR rs z (walkR rs z s (y.take i)) y[i] := by
  unfold walkR
  rw [take_more h, List.foldl_append]
  rfl
/-- states stay states, bits grow -/
structure GoodS (m : Nat) (rs : List Row) : Prop where
  row : ∀ r ∈ rs, r.length = m ∧ ∀ gb ∈ r, 0 ≤ gb.1 ∧ gb.1 < rs.length
theorem Good.s {m : Nat} {rs : List Row} {es : List Int} (g : Good m rs es) : GoodS m rs := ⟨fun r hr => ⟨(g.row r hr).1, fun gb h => ⟨((g.row r hr).2 gb h).1, ((g.row r hr).2 gb h).2.1⟩⟩⟩
theorem at_row {m : Nat} {rs : List Row} (g : GoodS m rs) {s : Int} {j : Nat} (h0 : 0 ≤ s) (h1 : s < rs.length) (hj : j < m) :
    ∃ (h : s.toNat < rs.length) (h' : j < rs[s.toNat].length), (rs.getD s.toNat []).getD j (0, 0) = rs[s.toNat][j] ∧ 0 ≤ (rs[s.toNat][j]).1 ∧ (rs[s.toNat][j]).1 < rs.length := by
  have h : s.toNat < rs.length := by omega
  have hr := g.row rs[s.toNat] (List.getElem_mem h)
  have h' : j < rs[s.toNat].length := by rw [hr.1]; exact hj
  refine ⟨h, h', ?_, hr.2 _ (List.getElem_mem h')⟩
  rw [List.getD_eq_getElem?_getD, List.getD_eq_getElem?_getD, List.getElem?_eq_getElem h, Option.getD_some, List.getElem?_eq_getElem h', Option.getD_some]
theorem idx_lt {z : List Nat} {c : Nat} (h : c ∈ z) : z.idxOf c < z.length := List.idxOf_lt_length_iff.mpr h
theorem walkR_ok {m : Nat} {rs : List Row} {z y : List Nat} {s : Int} (g : GoodS m rs) (hz : z.length = m) (h0 : 0 ≤ s) (h1 : s < rs.length) (hy : ∀ c ∈ y, c ∈ z) : ∀ i, i ≤ y.length → 0 ≤ (walkR rs z s (y.take i)).1 ∧ (walkR rs z s (y.take i)).1 < rs.length
  | 0, _ => by rw [List.take_zero]; exact ⟨h0, h1⟩
  | i + 1, hi => by
    have ih := walkR_ok (y := y) g hz h0 h1 hy i (by omega)
    have hi' : i < y.length := by omega
    rw [walkR_more hi']
    have hc : z.idxOf y[i] < m := by rw [← hz]; exact idx_lt (hy _ (List.getElem_mem hi'))
    obtain ⟨h, h', e, a, b⟩ := at_row g ih.1 ih.2 hc
    unfold stepR
    simp only [e]
    exact ⟨a, b⟩
/-- a column's length, by the rows and the ends -/
def lenR (rs : List Row) (es : List Int) (z : List Nat) (y : List Nat) : Int := (walkR rs z 0 y).2 + es.getD (walkR rs z 0 y).1.toNat 0
end Vf
set_option Elab.async false
set_option linter.all false
set_option maxRecDepth 100000
set_option maxHeartbeats 4000000
namespace Vf
open PySem L2 PyProof.Rows
structure TxtE (K : PySem.W.Frag) (mg : Str → Option Value) (B CT fT : Addr) : Prop where
  len : mg "len" = none
  base : BaseT K mg "CodeError" B
  tm : ErrT K mg "TooMany" "what" CT fT
section
variable {P : Program} {w : World} {K : PySem.W.Frag} {mg : Str → Option Value} {base : Heap}
abbrev s_TooMany___init__ : Stmt := inClass (top 6) 0
abbrev N_TooMany___init__ : List Str := ["self", "what"]
abbrev P_TooMany___init__ : List Str := ["self", "what"]
theorem sc_TooMany___init__ : FnScope N_TooMany___init__ P_TooMany___init__ (defScope s_TooMany___init__) := ⟨rfl, rfl, rfl, by decide +kernel, rfl, by decide +kernel, by decide +kernel⟩

theorem ok_tm {f B C fI : Addr} {fd : FuncData} (F : Fun K "__init__" "TooMany.__init__" s_TooMany___init__ f fd) (Tb : BaseT K mg "CodeError" B) (T : ErrT K mg "TooMany" "what" C fI) : FnOk P w K mg base CX0 1 f fd P_TooMany___init__ (spErr C "what") := by
  refine F.ok sc_TooMany___init__ (fun vs H Q E h => ?_) (fun cdv A outer s H vs Q E hr h => ?_)
  · obtain ⟨a, v, rfl, _⟩ := h
    rfl
  · obtain ⟨a, v, rfl, ha, k⟩ := h
    refine ⟨_, pss_cons (ps_expr (pe_clsinit Tb (by rfl) (pa_cons (pv 0) (pa_cons pe_str pa_nil)))) (pss_one (ps_ost (pv 0) (pv 1))), ?_⟩
    refine ⟨_, rfl, a, C, _, rfl, by show 1 ≤ 1000; decide, T.oex, ha, ?_⟩
    exact ⟨_, rfl, _, rfl, a, C, rfl, T.oex, T.nf, Or.inl ⟨ha, fun d h1 h2 => k d h1 h2⟩⟩
/-- one letter on: the key behind -/
def spStep {κ : Type} [DecidableEq κ] (kd : Kd κ) (st : κ → Nat → κ) (Dm : κ → Prop) (z : Str) : Sp := fun vs H Q _ => ∃ (v : V) (k : κ) (c : Nat), vs = [v, .str (sg c)] ∧ kd.at_ H v k ∧ Dm k ∧ c ∈ TL.tl z ∧
  ∀ v' H', Same H H' → kd.at_ H' v' (st k c) → Q v' H'
def Explored {κ : Type} [DecidableEq κ] (kd : Kd κ) (H : Hp) (t : Addr) (ks : List κ) (rows : List (List Nat)) : Prop :=
  ∃ (M R : Addr) (vs : List V) (rs : List Addr), H t = some (.tup [.ref M, .ref R]) ∧ H M = some (.lst vs) ∧ Forall2 (kd.at_ H) vs ks ∧ H R = some (.lst (rs.map V.ref)) ∧
    Forall2 (fun (r : Addr) (row : List Nat) => H r = some (.lst (row.map fun (n : Nat) => V.int (n : Int)))) rs rows
def spExpl (P : Program) (w : World) (K : PySem.W.Frag) (mg : Str → Option Value) (base : Heap) (CT : Addr) {κ : Type} [DecidableEq κ] (kd : Kd κ) : Sp := fun vs H Q E => ∃ (z : Str) (v0 : V) (f : Addr) (most : Nat) (s0 : κ) (st : κ → Nat → κ) (Dm : κ → Prop) (S : Hp → Prop),
  vs = [.str z, v0, .ref f, .int most] ∧ kd.at_ H v0 s0 ∧ Dm s0 ∧ (∀ k c, Dm k → c ∈ TL.tl z → Dm (st k c)) ∧ S H ∧ Stab S ∧ FV P w K mg base CX0 8 f S (spStep kd st Dm z) ∧ most ≤ 100 ∧ z.length ≤ 26 ∧
  ((turns st (TL.tl z) s0 most).1.length ≤ most → ∀ t H', Same H H' → Explored kd H' t (turns st (TL.tl z) s0 most).1 (turns st (TL.tl z) s0 most).2 → Q (.ref t) H') ∧
  (most < (turns st (TL.tl z) s0 most).1.length → ∀ d H', Raised H H' d "what" (.str "states") → E (.ref CT) (some d) H')
structure St {κ : Type} [DecidableEq κ] (st : κ → Nat → κ) (L : List Nat) (Dm : κ → Prop) (kd : Kd κ) (H : Hp) (M Nd R : Addr) (H1 : Hp) (ks : List κ) (rows : List (List Nat)) (vs : List V) (rs : List Addr) : Prop where
  mem : H1 M = some (.lst vs)
  at_ : Forall2 (kd.at_ H1) vs ks
  num : H1 Nd = some (kd.dic (nums ks))
  row : H1 R = some (.lst (rs.map V.ref))
  rows : Forall2 (fun (r : Addr) (row : List Nat) => H1 r = some (.lst (row.map fun (n : Nat) => V.int (n : Int)))) rs rows
  same : Same H H1
  far : ∀ r ∈ rs, r ≠ M ∧ r ≠ Nd ∧ r ≠ R
  dm : ∀ k ∈ ks, Dm k
section
variable {κ : Type} [DecidableEq κ] {st : κ → Nat → κ} {L : List Nat} {Dm : κ → Prop} {kd : Kd κ} {H H1 H2 : Hp} {M Nd R : Addr} {ks : List κ} {rows : List (List Nat)} {vs : List V} {rs : List Addr}
theorem St.sm (W : St st L Dm kd H M Nd R H1 ks rows vs rs) (s : Same H1 H2) : St st L Dm kd H M Nd R H2 ks rows vs rs :=
  ⟨s _ _ W.mem, W.at_.imp fun x y _ h => kd.keep h fun b xs e => s _ _ e, s _ _ W.num, s _ _ W.row, W.rows.imp fun x y _ h => s _ _ h, W.same.trans s, W.far, W.dm⟩
theorem upd_tup {a : Addr} {o o' : HO} (h : H1 a = some o) (n : ∀ xs, o ≠ .tup xs) : ∀ b xs, H1 b = some (.tup xs) → L2.upd H1 a o' b = some (.tup xs) := fun b xs e => by
  rw [upd_ne (ne_of e h (fun z => n xs z.symm))]
  exact e
theorem St.add (W : St st L Dm kd H M Nd R H1 ks rows vs rs) (n1 : Nd ≠ M) (n2 : R ≠ Nd) (n3 : R ≠ M) (hM : H M = none) (hN : H Nd = none) {v : V} {k : κ} (ha : kd.at_ H1 v k) (hn : k ∉ ks) (hd : Dm k) :
    St st L Dm kd H M Nd R (L2.upd (L2.upd H1 Nd (kd.dic (putK (nums ks) k (.int (ks.length : Int))))) M (.lst (vs ++ [v]))) (ks ++ [k]) rows (vs ++ [v]) rs := by
  have t1 : ∀ b xs, H1 b = some (.tup xs) → L2.upd (L2.upd H1 Nd (kd.dic (putK (nums ks) k (.int (ks.length : Int))))) M (.lst (vs ++ [v])) b = some (.tup xs) := fun b xs e => by
    rw [upd_ne (ne_of e W.mem (fun z => nomatch z)), upd_ne (ne_of e W.num (fun z => kd.notTup _ _ z.symm))]
    exact e
  refine ⟨upd_same, (W.at_.imp fun x y _ h => kd.keep h t1).snoc (kd.keep ha t1), ?_, ?_, W.rows.imp fun x y hx h => ?_, (W.same.put hN).put hM, W.far, fun q hq => ?_⟩
  · rw [upd_ne n1, upd_same, putK_nums hn]
  · rw [upd_ne n3, upd_ne n2]; exact W.row
  · rw [upd_ne (W.far x hx).1, upd_ne (W.far x hx).2.1]; exact h
  · rcases List.mem_append.mp hq with h | h
    · exact W.dm q h
    · rw [List.mem_singleton.mp h]; exact hd
theorem St.addRow (W : St st L Dm kd H M Nd R H1 ks rows vs rs) (n2 : R ≠ Nd) (n3 : R ≠ M) (hR : H R = none) {r : Addr} {row : List Nat} (hr : H1 r = some (.lst (row.map fun (n : Nat) => V.int (n : Int)))) (f : r ≠ M ∧ r ≠ Nd ∧ r ≠ R) :
    St st L Dm kd H M Nd R (L2.upd H1 R (.lst (rs.map V.ref ++ [.ref r]))) ks (rows ++ [row]) vs (rs ++ [r]) := by
  refine ⟨by rw [upd_ne n3.symm]; exact W.mem, W.at_.imp fun x y _ h => kd.keep h (upd_tup W.row fun _ z => nomatch z), by rw [upd_ne n2.symm]; exact W.num, by rw [upd_same, List.map_append]; rfl,
    (W.rows.imp fun x y hx h => ?_).snoc ?_, W.same.put hR, fun q hq => ?_, W.dm⟩
  · rw [upd_ne (W.far x hx).2.2]; exact h
  · rw [upd_ne f.2.2]; exact hr
  · rcases List.mem_append.mp hq with h | h
    · exact W.far q h
    · rw [List.mem_singleton.mp h]; exact f
end
abbrev s_explored : Stmt := top 11
abbrev N_explored : List Str := ["values", "start", "step", "most", "memories", "numbers", "rows", "row", "value", "memory"]
abbrev P_explored : List Str := ["values", "start", "step", "most"]
theorem sc_explored : FnScope N_explored P_explored (defScope s_explored) := ⟨rfl, rfl, rfl, by decide +kernel, rfl, by decide +kernel, by decide +kernel⟩

theorem ok_expl {κ : Type} [DecidableEq κ] (kd : Kd κ) {f B CT fT : Addr} {fd fdT : FuncData} (F : Fun K "explored" "explored" s_explored f fd) (T : TxtE K mg B CT fT) (FT : Fun K "__init__" "TooMany.__init__" s_TooMany___init__ fT fdT) (bT : Binds K fdT P_TooMany___init__ []) :
    FnOk P w K mg base (L2.CX P w) 9 f fd P_explored (spExpl P w K mg base CT kd) := by
  have GT : FnOk P w K mg base CX0 1 fT fdT P_TooMany___init__ (spErr CT "what") := ok_tm FT T.base T.tm
  refine F.okX sc_explored (fun vs H Q E h => ?_) (fun cdv A outer s H vs Q E hr h => ?_)
  · obtain ⟨z, v0, f, most, s0, st, Dm, S, rfl, _⟩ := h
    rfl
  · obtain ⟨z, v0, f, most, s0, st, Dm, S, rfl, h0, hD0, hD, hS, hst, FS, hm, hz, kq, ke⟩ := h
    have hu := hu_of hr
    refine ⟨_, (pss_cons (ps_set (i := 4) sc_explored.nd rfl (Or.inl rfl) (pe_lst (pa_cons (pv 1) pa_nil)))
      (pss_cons (ps_set (i := 5) sc_explored.nd rfl (Or.inl rfl) (pe_or (pe_disp (pps_cons (pv 1) pe_int pps_nil) (by rfl) (by rfl) (fun z => by cases z) (by decide)) (pe_dispT hu (pv 1) pe_int)))
      (pss_cons (ps_set (i := 6) sc_explored.nd rfl (Or.inl rfl) (pe_lst pa_nil))
      (pss_cons (ps_while (passes_of rfl) (pt_cmpR op_lt (pe_callB call_len (by rfl) T.len PySem.boot_len (pa_cons (pv 6) pa_nil)) (pe_callB call_len (by rfl) T.len PySem.boot_len (pa_cons (pv 4) pa_nil)) (nomark _)) (pss_cons (ps_set (i := 7) sc_explored.nd rfl (Or.inl rfl) (pe_lst pa_nil))
      (pss_cons (ps_for (passes_of rfl) rfl (pi_str (pv 0)) (pg_name (i := 8) sc_explored.nd rfl (Or.inl rfl)) (pss_cons (ps_set (i := 9) sc_explored.nd rfl (Or.inl rfl) (pe_callV (i := 2) FS (hr.mono (by decide)) pass0 rfl (Or.inl rfl) (pa_cons (pe_ix ix_list (pv 4) (pe_callB call_len (by rfl) T.len PySem.boot_len (pa_cons (pv 6) pa_nil)) (fun _ _ => rfl)) (pa_cons (pv 8) pa_nil))))
      (pss_cons (ps_if (PW.pt (pw_and (pt_cmpR op_notN (pv 9) pe_non (nomark _)) (pw_and1 (pt_cmp (pc_dnotin hu (pv 9) (pv 5)))))) (pss_cons (ps_dput hu (pv 5) (pv 9) (pe_callB call_len (by rfl) T.len PySem.boot_len (pa_cons (pv 4) pa_nil)) rfl)
      (pss_one (ps_expr (pe_bm PySem.F.plainAttrs_list PySem.F.slot_list_append PySem.F.type_list_append mt_append (pv 4) (pa_cons (pv 9) pa_nil))))) pss_nil)
      (pss_one (ps_expr (pe_bm PySem.F.plainAttrs_list PySem.F.slot_list_append PySem.F.type_list_append mt_append (pv 7) (pa_cons (pe_dget1 hu (pv 5) (pv 9) ⟨rfl, rfl, rfl, rfl⟩) pa_nil)))))))
      (pss_cons (ps_if (pt_cmpR op_gt (pe_callB call_len (by rfl) T.len PySem.boot_len (pa_cons (pv 4) pa_nil)) (pv 3) (nomark _)) (pss_one (ps_raise rfl (takes_of rfl rfl rfl rfl) (pmk_oex T.tm.oex T.tm.iC T.tm.tI GT (hr.mono (by decide)) bT .nil pass0 (by rfl) T.tm.g (pa_cons pe_str pa_nil)))) pss_nil)
      (pss_one (ps_expr (pe_bm PySem.F.plainAttrs_list PySem.F.slot_list_append PySem.F.type_list_append mt_append (pv 6) (pa_cons (pv 7) pa_nil))))))))
      (pss_one (ps_ret (pe_tup (pa_cons (pv 4) (pa_cons (pv 6) pa_nil))))))))), ?_⟩
    refine ⟨_, rfl, by show 1 ≤ sizeLine; decide, fun M hM => ?_⟩
    have s1 : Same H (L2.upd H M (.lst [v0])) := same_new hM
    refine kd.disp (i := 1) rfl (kd.keep h0 fun b xs e => s1 _ _ e) (fun Nd hN => ?_)
    have nNM : Nd ≠ M := fun z => by rw [z, upd_same] at hN; cases hN
    have hN0 : H Nd = none := s1.free hN
    have s2 : Same H (L2.upd (L2.upd H M (.lst [v0])) Nd (kd.dic [(s0, .int 0)])) := s1.put hN0
    refine ⟨by show 0 ≤ sizeLine; decide, fun R hR => ?_⟩
    have nRN : R ≠ Nd := fun z => by rw [z, upd_same] at hR; cases hR
    have nRM : R ≠ M := fun z => by rw [z, upd_ne nNM.symm, upd_same] at hR; cases hR
    have hR0 : H R = none := s2.free hR
    have s3 : Same H (L2.upd (L2.upd (L2.upd H M (.lst [v0])) Nd (kd.dic [(s0, .int 0)])) R (.lst [])) := s2.put hR0
    refine ⟨fun m σ H1 => ∃ (n : Nat) (vs : List V) (rs : List Addr) (v7 v8 v9 : Option V), m + n = 101 ∧ (∀ i < n, (turns st (TL.tl z) s0 i).2.length < (turns st (TL.tl z) s0 i).1.length) ∧ (n = 0 ∨ (turns st (TL.tl z) s0 n).1.length ≤ most) ∧
      σ = [some (.str z), some v0, some (.ref f), some (.int most), some (.ref M), some (.ref Nd), some (.ref R), v7, v8, v9] ∧ St st (TL.tl z) Dm kd H M Nd R H1 (turns st (TL.tl z) s0 n).1 (turns st (TL.tl z) s0 n).2 vs rs, ⟨101, 0, [v0], [], none, none, none, rfl, fun i hi => absurd hi (Nat.not_lt_zero _), Or.inl rfl, rfl, ?_⟩, ?_⟩
    · refine ⟨by rw [upd_ne nRM.symm, upd_ne nNM.symm, upd_same], ⟨rfl, fun i x y e1 e2 => ?_⟩, by rw [upd_ne nRN.symm, upd_same]; rfl, upd_same, ⟨rfl, fun i x y e1 e2 => by simp at e1⟩, s3, fun r hr => (nomatch hr), fun k hk => ?_⟩
      · cases i with
        | zero =>
          cases e1; cases e2
          exact kd.keep h0 fun b xs e => s3 _ _ e
        | succ i => cases e1
      · rw [List.mem_singleton.mp hk]; exact hD0
    rintro m σ H1 ⟨n, vs, rs, v7, v8, v9, hmn, hlt, hle, rfl, W⟩
    have hn := turns_rows st (TL.tl z) s0 hlt
    have lk : (turns st (TL.tl z) s0 n).1.length ≤ 100 := by
      rcases hle with e | e
      · subst e; exact Nat.le_trans (Nat.le_refl 1) (by omega)
      · omega
    generalize ep : turns st (TL.tl z) s0 n = p at *
    obtain ⟨ks, rows⟩ := p
    dsimp only at *
    have lv : vs.length = ks.length := W.at_.1
    have lr : rs.length = rows.length := W.rows.1
    refine ⟨_, rfl, _, _, rfl, Or.inl ⟨_, SqL.of W.row, rfl⟩, _, rfl, _, _, rfl, Or.inl ⟨_, SqL.of W.mem, rfl⟩, _, _, rfl, rfl, _, rfl, ite2 (fun c0 => ?_) (fun c0 => ?_)⟩
    · have c1 : rows.length < ks.length := by
        rw [List.length_map, lr, lv] at c0
        simpa using c0
      refine ⟨_, fun _ _ h => h, by show 0 ≤ sizeLine; decide, fun r hr => ?_⟩
      have nrM : r ≠ M := (ne_of_none W.mem hr).symm
      have nrN : r ≠ Nd := (ne_of_none W.num hr).symm
      have nrR : r ≠ R := (ne_of_none W.row hr).symm
      have hr0 : H r = none := W.same.free hr
      obtain ⟨mm, hmm⟩ : ∃ mm, ks[n]? = some mm := ⟨_, List.getElem?_eq_getElem (by omega)⟩
      refine ⟨_, rfl, z, rfl, for_it walk_strS (fun j σ H3 => ∃ (vs' : List V) (v8 v9 : Option V), σ = [some (.str z), some v0, some (.ref f), some (.int most), some (.ref M), some (.ref Nd), some (.ref R), some (.ref r), v8, v9] ∧
        St st (TL.tl z) Dm kd H M Nd R H3 (rowOf st mm ((TL.tl z).take j) (ks, [])).1 rows vs' rs ∧ H3 r = some (.lst ((rowOf st mm ((TL.tl z).take j) (ks, [])).2.map fun (n : Nat) => V.int (n : Int))) ∧ ∀ q ∈ rs, q ≠ r)
        ⟨vs, v8, v9, rfl, ?_, upd_same, ?_⟩ (fun _ _ _ _ _ => trivial) ?_ ?_⟩
      · exact W.sm (same_new hr)
      · intro q hq e
        subst e
        obtain ⟨i, hi, he⟩ := List.getElem_of_mem hq
        have := W.rows.2 i q _ (List.getElem?_eq_some_iff.mpr ⟨hi, he⟩) (List.getElem?_eq_getElem (by omega))
        have this : H1 q = _ := this
        rw [hr] at this; cases this
      · rintro j x σ H3' H3 hj ⟨vs', v8, v9, rfl, W3, hr3, hfr⟩ ⟨rfl, cc, hcc, rfl⟩
        have hSS := hst.same W3.same hS
        have hpre := rowOf_pre st mm ((TL.tl z).take j) (ks, [])
        have hstep : rowOf st mm ((TL.tl z).take (j + 1)) (ks, []) = (add1 (rowOf st mm ((TL.tl z).take j) (ks, [])).1 (st mm cc), (rowOf st mm ((TL.tl z).take j) (ks, [])).2 ++ [num (add1 (rowOf st mm ((TL.tl z).take j) (ks, [])).1 (st mm cc)) (st mm cc)]) := by
          rw [List.take_add_one, hcc]
          exact rowOf_append st mm _ [cc] (ks, [])
        have hlen3 := rowOf_len st mm ((TL.tl z).take j) (ks, [])
        have hlenr := rowOf_row st mm ((TL.tl z).take j) (ks, [])
        have hjz : ((TL.tl z).take j).length ≤ 26 := by rw [List.length_take, ← TL.len_tl]; omega
        have hccm : cc ∈ TL.tl z := List.mem_of_getElem? hcc
        rw [hstep]
        generalize rowOf st mm ((TL.tl z).take j) (ks, []) = q at W3 hr3 hpre hstep hlen3 hlenr
        obtain ⟨qk, qr⟩ := q
        dsimp only at W3 hr3 hpre hlen3 hlenr ⊢
        rw [List.length_nil, Nat.zero_add] at hlenr
        have lv3 : vs'.length = qk.length := W3.at_.1
        have lr3 : rs.length = rows.length := W3.rows.1
        obtain ⟨v, hv⟩ : ∃ v, vs'[n]? = some v := ⟨_, List.getElem?_eq_getElem (by have := hpre.length_le; omega)⟩
        have hqm : qk[n]? = some mm := by
          obtain ⟨t, ht⟩ := hpre
          rw [← ht, List.getElem?_append_left (by omega)]
          exact hmm
        have hat := W3.at_.2 n v mm hv hqm
        have hdm : Dm mm := W3.dm mm (List.mem_of_getElem? hqm)
        refine ⟨rfl, hSS, _, rfl, _, rfl, _, _, rfl, Or.inl ⟨_, SqL.of W3.row, rfl⟩, M, vs', _, v, rfl, rfl, SqL.of W3.mem, ?_, _, rfl, hSS, v, mm, cc, rfl, hat, hdm, hccm, fun v' H4 s4 hat' => ?_⟩
        · refine at_of' ?_ hv
          rw [List.length_map]
          show ((rs.length : Nat) : Int) = (n : Int)
          rw [lr3]
          omega
        have W4 := W3.sm s4
        have hr4 := s4 _ _ hr3
        refine ⟨_, rfl, rfl, _, rfl, ?_⟩
        rw [decide_eq_false (kd.some_ hat')]
        show (if true = true then _ else _)
        rw [if_pos rfl]
        refine ⟨_, rfl, _, rfl, Nd, _, rfl, kd.get W4.num hat', _, rfl, ?_⟩
        rw [valV_nums]
        by_cases hin : st mm cc ∈ qk
        · rw [if_pos hin]
          show (if false = true then _ else _)
          rw [if_neg (by decide)]
          have ea : add1 qk (st mm cc) = qk := if_pos hin
          rw [ea]
          refine ⟨_, rfl, Or.inl ⟨rfl, _, SqL.of hr4⟩, _, rfl, Nd, rfl, kd.isd W4.num, _, rfl, _, kd.get W4.num hat', r, _, _, rfl, rfl, hr4, ?_, ?_⟩
          · rw [List.length_map]; exact small1000 (by omega)
          · rw [valV_nums, if_pos hin]
            refine ⟨vs', _, _, rfl, ?_, by rw [upd_same, List.map_append]; rfl, hfr⟩
            exact ⟨by rw [upd_ne nrM.symm]; exact W4.mem, W4.at_.imp fun x y _ h => kd.keep h (upd_tup hr4 fun _ z => nomatch z), by rw [upd_ne nrN.symm]; exact W4.num, by rw [upd_ne nrR.symm]; exact W4.row,
              W4.rows.imp fun x y hx h => by show L2.upd H4 r _ x = _; rw [upd_ne (hfr x hx)]; exact h, W4.same.put hr0, W4.far, W4.dm⟩
        · rw [if_neg hin]
          show (if true = true then _ else _)
          rw [if_pos rfl]
          have ea : add1 qk (st mm cc) = qk ++ [st mm cc] := if_neg hin
          rw [ea]
          have W5 := W4.add nNM nRN nRM hM hN0 hat' hin (hD mm cc hdm hccm)
          have hr5 : L2.upd (L2.upd H4 Nd (kd.dic (putK (nums qk) (st mm cc) (.int (qk.length : Int))))) M (.lst (vs' ++ [v'])) r = some (.lst (qr.map fun (n : Nat) => V.int (n : Int))) := by
            rw [upd_ne nrM, upd_ne nrN]; exact hr4
          have at5 : kd.at_ (L2.upd (L2.upd H4 Nd (kd.dic (putK (nums qk) (st mm cc) (.int (qk.length : Int))))) M (.lst (vs' ++ [v']))) v' (st mm cc) := by
            have := W5.at_.2 qk.length v' (st mm cc) (by rw [← lv3, List.getElem?_append_right (Nat.le_refl _), Nat.sub_self]; rfl) (by rw [List.getElem?_append_right (Nat.le_refl _), Nat.sub_self]; rfl)
            exact this
          have hd5 := kd.put (x := .int (qk.length : Int)) W4.num hat' (by rw [nums_len]; exact small1000 (by omega))
          rw [← lv3] at hd5
          have W5 := W5
          refine ⟨_, rfl, _, _, rfl, Or.inl ⟨_, SqL.of W4.mem, rfl⟩, _, rfl, _, rfl, Nd, _, rfl, hd5, ?_⟩
          rw [lv3]
          refine ⟨_, rfl, Or.inl ⟨rfl, vs', SqL.of (by rw [upd_ne nNM.symm]; exact W4.mem)⟩, _, rfl, M, vs', v', rfl, rfl, by rw [upd_ne nNM.symm]; exact W4.mem, small1000 (by omega), ?_⟩
          refine ⟨_, rfl, Or.inl ⟨rfl, _, SqL.of hr5⟩, _, rfl, Nd, rfl, kd.isd W5.num, _, rfl, _, kd.get W5.num at5, r, _, _, rfl, rfl, hr5, ?_, ?_⟩
          · rw [List.length_map]; exact small1000 (by omega)
          · rw [valV_nums, if_pos (by simp)]
            refine ⟨vs' ++ [v'], _, _, rfl, ?_, by rw [upd_same, List.map_append]; rfl, hfr⟩
            exact ⟨by rw [upd_ne nrM.symm]; exact W5.mem, W5.at_.imp fun x y _ h => kd.keep h (upd_tup hr5 fun _ z => nomatch z), by rw [upd_ne nrN.symm]; exact W5.num, by rw [upd_ne nrR.symm]; exact W5.row,
              W5.rows.imp fun x y hx h => by show L2.upd _ r _ x = _; rw [upd_ne (hfr x hx)]; exact h, W5.same.put hr0, W5.far, W5.dm⟩
      · rintro σ H3 ⟨vs', v8, v9, rfl, W3, hr3, hfr⟩
        rw [List.take_of_length_le (by rw [← TL.len_tl]; exact Nat.le_refl _)] at W3 hr3
        have et : turns st (TL.tl z) s0 (n + 1) = ((rowOf st mm (TL.tl z) (ks, [])).1, rows ++ [(rowOf st mm (TL.tl z) (ks, [])).2]) := by
          show turn st (TL.tl z) (turns st (TL.tl z) s0 n) = _
          rw [ep]
          unfold turn
          dsimp only
          rw [hn, hmm]
        have hl3 : vs'.length = (turns st (TL.tl z) s0 (n + 1)).1.length := by rw [et]; exact W3.at_.1
        have hl4 := rowOf_len st mm (TL.tl z) (ks, [])
        refine ⟨_, rfl, _, _, rfl, Or.inl ⟨_, SqL.of W3.mem, rfl⟩, _, rfl, _, _, rfl, rfl, _, rfl, ite2 (fun c2 => ?_) (fun c2 => ?_)⟩
        · have c3 : most < (turns st (TL.tl z) s0 (n + 1)).1.length := by rw [hl3] at c2; simpa using c2
          have c4 : most < (turns st (TL.tl z) s0 most).1.length := by
            by_cases e : n + 1 ≤ most
            · exact Nat.lt_of_lt_of_le c3 (turns_len st (TL.tl z) s0 e)
            · have e0 : n = 0 ∧ most = 0 := by
                rcases hle with h | h <;> omega
              obtain ⟨rfl, rfl⟩ := e0
              rw [ep]
              show 0 < ks.length
              omega
          refine ⟨by show 1 ≤ 1000; decide, fun a ha => ⟨a, _, rfl, upd_same, fun d hd hda => ⟨rfl, d, [("what", V.str "states")], upd_same, ?_, ?_, ?_⟩⟩⟩
          · rw [upd_ne hda, upd_same]
          · rw [upd_ne hda] at hd; exact hd
          · rw [upd_ne hda] at hd
            exact ke c4 _ _ (Raised.aft W3.same (raised_of ha hd hda))
        · have c3 : (turns st (TL.tl z) s0 (n + 1)).1.length ≤ most := by rw [hl3] at c2; simpa using c2
          refine ⟨_, rfl, Or.inl ⟨rfl, _, SqL.of W3.row⟩, _, rfl, R, _, _, rfl, rfl, W3.row, ?_, ?_⟩
          · rw [List.length_map, W3.rows.1]; exact small1000 (by omega)
          · refine ⟨m - 1, by omega, n + 1, vs', rs ++ [r], _, _, _, by omega, fun i hi => ?_, Or.inr c3, rfl, ?_⟩
            · by_cases e : i = n
              · subst e; rw [ep]; exact c1
              · exact hlt i (by omega)
            · rw [et]
              exact W3.addRow nRN nRM hR0 hr3 ⟨nrM, nrN, nrR⟩
    · have c1 : ks.length ≤ rows.length := by
        rw [List.length_map, lr, lv] at c0
        simpa using c0
      have hst2 : turns st (TL.tl z) s0 (n + 1) = turns st (TL.tl z) s0 n := turns_stay st (TL.tl z) s0 (by rw [ep]; exact c1) (n + 1) (by omega)
      have hle2 := turns_rows_le st (TL.tl z) s0 n
      rw [ep] at hle2
      have hkm : ks.length ≤ most ∧ turns st (TL.tl z) s0 most = (ks, rows) := by
        rcases hle with h | h
        · subst h
          have : ks = [s0] := by cases ep; rfl
          subst this
          rw [hn] at c1
          exact absurd c1 (by simp)
        · exact ⟨h, by rw [turns_stay st (TL.tl z) s0 (i := n) (by rw [ep]; exact c1) most (by dsimp only at hle2; omega), ep]⟩
      obtain ⟨hk1, hk2⟩ := hkm
      rw [hk2] at kq
      refine ⟨_, rfl, _, rfl, by show 2 ≤ sizeLine; decide, fun t ht => ?_⟩
      have W6 := W.sm (same_new (o := .tup [.ref M, .ref R]) ht)
      exact kq hk1 t _ W6.same ⟨M, R, vs, rs, upd_same, W6.mem, W6.at_, W6.row, W6.rows⟩
end
end Vf
set_option Elab.async false
set_option linter.all false
set_option maxRecDepth 100000
set_option maxHeartbeats 4000000
namespace Vf
open PySem L2 PyProof.Rows
section
variable {P : Program} {w : World} {K : PySem.W.Frag} {mg : Str → Option Value} {base : Heap}
structure TxtN (K : PySem.W.Frag) (mg : Str → Option Value) : Prop where
  enumerate : mg "enumerate" = none
/-- the first place of a sign of y that is none of z's -/
def strange (z y : Str) : Option Nat := (TL.tl y).findIdx? fun c => decide (c ∉ TL.tl z)
def spStrange : Sp := fun vs H Q _ => ∃ z y : Str, vs = [.str z, .str y] ∧ ∀ H', Same H H' → Q (match strange z y with | none => .non | some i => .int i) H'
abbrev s_strange_place : Stmt := top 12
abbrev N_strange_place : List Str := ["letters", "text", "place", "letter"]
abbrev P_strange_place : List Str := ["letters", "text"]
theorem sc_strange_place : FnScope N_strange_place P_strange_place (defScope s_strange_place) := ⟨rfl, rfl, rfl, by decide +kernel, rfl, by decide +kernel, by decide +kernel⟩

theorem ok_strange {f : Addr} {fd : FuncData} (F : Fun K "strange_place" "strange_place" s_strange_place f fd) (T : TxtN K mg) : FnOk P w K mg base CX0 1 f fd P_strange_place spStrange := by
  refine F.ok sc_strange_place (fun vs H Q E h => ?_) (fun cdv A outer s H vs Q E hr h => ?_)
  · obtain ⟨z, y, rfl, _⟩ := h
    rfl
  · obtain ⟨z, y, rfl, k⟩ := h
    refine ⟨_, (pss_cons (ps_for PassesOwn.never rfl (pi_enumS (by rfl) T.enumerate (pa_cons (pv 1) pa_nil)) (pg_tup (by rfl) (pgs_cons (pg_name (i := 2) sc_strange_place.nd rfl (Or.inl rfl)) (pgs_cons (pg_name (i := 3) sc_strange_place.nd rfl (Or.inl rfl)) pgs_nil))) (pss_one (ps_if (pt_cmpR op_notIn_sign (pv 3) (pv 0) (by rfl)) (pss_one (ps_ret (pv 2))) pss_nil)))
      (pss_one (ps_ret pe_non))), ?_⟩
    refine ⟨_, rfl, y, rfl, for_it walk_enumS (fun i σ H1 => ∃ v2 v3 : Option V, σ = [some (.str z), some (.str y), v2, v3] ∧ Same H H1 ∧ ∀ j c, j < i → (TL.tl y)[j]? = some c → c ∈ TL.tl z)
      ⟨none, none, rfl, Same.refl H, fun j c h => absurd h (Nat.not_lt_zero _)⟩ (fun _ _ _ _ _ => trivial) ?_ ?_⟩
    · rintro i x σ H1 H2 hi ⟨v2, v3, rfl, s1, hj⟩ ⟨q, c, rfl, hq, rfl, hc⟩
      refine ⟨q, _, rfl, SqT.of upd_same, rfl, _, _, rfl, _, _, rfl, rfl, _, rfl, _, rfl, c, z, rfl, rfl, _, rfl, ite2 (fun h1 => ?_) (fun h1 => ?_)⟩
      · have h1 : c ∉ TL.tl z := by simpa using h1
        refine ⟨_, rfl, ?_⟩
        have e : strange z y = some i := by
          obtain ⟨hlt, he⟩ := List.getElem?_eq_some_iff.mp hc
          refine List.findIdx?_eq_some_iff_getElem.mpr ⟨hlt, by simp [he, h1], fun j hji => ?_⟩
          have := hj j _ hji (List.getElem?_eq_getElem (by omega))
          simpa using this
        have := k _ (s1.trans (same_new (o := .tup [.int (i : Nat), .str (sg c)]) hq))
        rw [e] at this
        exact this
      · have h1 : c ∈ TL.tl z := by simpa using h1
        refine ⟨_, _, rfl, s1.trans (same_new hq), fun j d h2 h3 => ?_⟩
        by_cases e : j = i
        · rw [e, hc] at h3
          rw [← Option.some.inj h3]; exact h1
        · exact hj j d (by omega) h3
    · rintro σ H1 ⟨v2, v3, rfl, s1, hj⟩
      have e : strange z y = none := by
        refine List.findIdx?_eq_none_iff.mpr fun c hc => ?_
        obtain ⟨j, hlt, he⟩ := List.getElem_of_mem hc
        have := hj j c (by rw [TL.len_tl]; exact hlt) (by rw [List.getElem?_eq_getElem hlt, he])
        simp [this]
      have := k _ s1
      rw [e] at this
      exact this
end
end Vf
set_option Elab.async false
set_option linter.all false
set_option maxRecDepth 100000
set_option maxHeartbeats 4000000
namespace Vf
open PySem L2 PyProof.Rows
def badRow (m n k i : Nat) (r : Row) : Prop := r.length ≠ m ∨ k ≤ i ∨ ∃ gb ∈ r, ¬ (0 ≤ gb.1 ∧ gb.1 < n)
/-- the first wrong state -/
def BadAt (m : Nat) (rs : List Row) (es : List Int) (i : Nat) : Prop :=
  (∃ h : i < rs.length, badRow m rs.length es.length i rs[i] ∧ ∀ (j : Nat) (hj : j < i), ¬ badRow m rs.length es.length j rs[j]) ∨
    (i = rs.length ∧ (∀ (j : Nat) (hj : j < rs.length), ¬ badRow m rs.length es.length j rs[j]) ∧ (rs.length = 0 ∨ rs.length < es.length))
def AllOk (m : Nat) (rs : List Row) (es : List Int) : Prop := (∀ (j : Nat) (hj : j < rs.length), ¬ badRow m rs.length es.length j rs[j]) ∧ 0 < rs.length ∧ es.length ≤ rs.length
structure TxtC (K : PySem.W.Frag) (mg : Str → Option Value) (B CB fB' : Addr) : Prop where
  len : mg "len" = none
  any : mg "any" = none
  tuple : mg "tuple" = none
  enumerate : mg "enumerate" = none
  base : BaseT K mg "CodeError" B
  bc : ErrT K mg "BadCode" "state" CB fB'
section
variable {P : Program} {w : World} {K : PySem.W.Frag} {mg : Str → Option Value} {base : Heap}
abbrev s_BadCode___init__ : Stmt := inClass (top 3) 0
abbrev N_BadCode___init__ : List Str := ["self", "state"]
abbrev P_BadCode___init__ : List Str := ["self", "state"]
theorem sc_BadCode___init__ : FnScope N_BadCode___init__ P_BadCode___init__ (defScope s_BadCode___init__) := ⟨rfl, rfl, rfl, by decide +kernel, rfl, by decide +kernel, by decide +kernel⟩

theorem ok_bc {f B C fI : Addr} {fd : FuncData} (F : Fun K "__init__" "BadCode.__init__" s_BadCode___init__ f fd) (Tb : BaseT K mg "CodeError" B) (T : ErrT K mg "BadCode" "state" C fI) : FnOk P w K mg base CX0 1 f fd P_BadCode___init__ (spErr C "state") := by
  refine F.ok sc_BadCode___init__ (fun vs H Q E h => ?_) (fun cdv A outer s H vs Q E hr h => ?_)
  · obtain ⟨a, v, rfl, _⟩ := h
    rfl
  · obtain ⟨a, v, rfl, ha, k⟩ := h
    refine ⟨_, pss_cons (ps_expr (pe_clsinit Tb (by rfl) (pa_cons (pv 0) (pa_cons pe_str pa_nil)))) (pss_one (ps_ost (pv 0) (pv 1))), ?_⟩
    refine ⟨_, rfl, a, C, _, rfl, by show 1 ≤ 1000; decide, T.oex, ha, ?_⟩
    exact ⟨_, rfl, _, rfl, a, C, rfl, T.oex, T.nf, Or.inl ⟨ha, fun d h1 h2 => k d h1 h2⟩⟩
/-- the errors that leave: BadCode with its state -/
def EBC (CB : Addr) (H : Hp) (E : XK) (i : Nat) : Prop := ∀ d H', Raised H H' d "state" (.int i) → E (.ref CB) (some d) H'
theorem Raised.after {H H1 H' : Hp} {d : Addr} {f : Str} {v : V} (s : Same H H1) (r : Raised H1 H' d f v) : Raised H H' d f v := ⟨s.free r.1, r.2.1, s.trans r.2.2⟩
def okB (n : Int) (gb : Int × Int) : Bool := !(decide (0 ≤ gb.1) && decide (gb.1 < n))
def spCheck (K : PySem.W.Frag) (CB : Addr) : Sp := fun vs H Q E => ∃ (z : Str) (R Ev : V) (rs : List Row) (es : List Int), vs = [.str z, R, Ev] ∧ Rws K H R rs ∧ Ens K H Ev es ∧ z.length ≤ 26 ∧ rs.length ≤ 100 ∧ es.length ≤ 100 ∧ (∀ r ∈ rs, r.length ≤ 100) ∧
  (AllOk z.length rs es → ∀ H', Same H H' → Q .non H') ∧ (∀ i, BadAt z.length rs es i → EBC CB H E i)
abbrev s_check_states : Stmt := top 19
abbrev N_check_states : List Str := ["values", "rows", "ends", "many", "state", "row", "goal", "bits"]
abbrev P_check_states : List Str := ["values", "rows", "ends"]
theorem sc_check_states : FnScope N_check_states P_check_states (defScope s_check_states) := ⟨rfl, rfl, rfl, by decide +kernel, rfl, by decide +kernel, by decide +kernel⟩

theorem ok_check {f B CB fB' : Addr} {fd fdB : FuncData} (F : Fun K "check_states" "check_states" s_check_states f fd) (T : TxtC K mg B CB fB') (FB' : Fun K "__init__" "BadCode.__init__" s_BadCode___init__ fB' fdB) (bB' : Binds K fdB P_BadCode___init__ []) : FnOk P w K mg base (L2.CX P w) 3 f fd P_check_states (spCheck K CB) := by
  have GB' : FnOk P w K mg base CX0 1 fB' fdB P_BadCode___init__ (spErr CB "state") := ok_bc FB' T.base T.bc
  refine F.okX sc_check_states (fun vs H Q E h => ?_) (fun cdv A outer s H vs Q E hr h => ?_)
  · obtain ⟨z, R, Ev, rs, es, rfl, _⟩ := h
    rfl
  · obtain ⟨z, R, Ev, rs, es, rfl, hR, hE, hz, hl, hel, hrl, kq, ke⟩ := h
    refine ⟨_, (pss_cons (ps_set (i := 3) sc_check_states.nd rfl (Or.inr rfl) (pe_callB call_len (by rfl) T.len PySem.boot_len (pa_cons (pv 1) pa_nil)))
      (pss_cons (ps_for (passes_of rfl) rfl (pi_enumX (by rfl) T.enumerate (pa_cons (pv 1) pa_nil)) (pg_tup (by rfl) (pgs_cons (pg_name (i := 4) sc_check_states.nd rfl (Or.inl rfl)) (pgs_cons (pg_name (i := 5) sc_check_states.nd rfl (Or.inl rfl)) pgs_nil))) (pss_cons (ps_if (PW.pt (pw_or (pt_cmpR op_ne (pe_callB call_len (by rfl) T.len PySem.boot_len (pa_cons (pv 5) pa_nil)) (pe_callB call_len (by rfl) T.len PySem.boot_len (pa_cons (pv 0) pa_nil)) (nomark _)) (pw_or1 (pt_cmpR op_ge (pv 4) (pe_callB call_len (by rfl) T.len PySem.boot_len (pa_cons (pv 2) pa_nil)) (nomark _))))) (pss_one (ps_raise rfl (takes_of rfl rfl rfl rfl) (pmk_oex T.bc.oex T.bc.iC T.bc.tI GB' (hr.mono (by decide)) bB' .nil pass0 (by rfl) T.bc.g (pa_cons (pv 4) pa_nil)))) pss_nil)
      (pss_one (ps_if (pt_val (pe_callB (cr_any rfl) (by rfl) T.any boot_any (pa_cons (pe_lc (own := [("goal", 6), ("bits", 7)]) (g := gTup K 2 (gCons (gName 6) (gCons (gName 7) gNil))) (by rfl) sc_check_states.nd (pi_seq (K := K) rfl (pv 5)) (blkOk_by (own := [("goal", 6), ("bits", 7)]) (N := N_check_states) (sc := defScope s_check_states) (by decide +kernel)) (fun _ _ _ _ _ => (pg_tup (by rfl) (pgs_cons (pg_name (i := 6) sc_check_states.nd rfl (Or.inl rfl)) (pgs_cons (pg_name (i := 7) sc_check_states.nd rfl (Or.inl rfl)) pgs_nil)))) (fun _ _ _ _ _ => pts_nil) (fun _ _ _ _ _ => (pe_not (pe_chain op_le op_lt pe_int (pv 6) (pv 3))))) pa_nil))) (pss_one (ps_raise rfl (takes_of rfl rfl rfl rfl) (pmk_oex T.bc.oex T.bc.iC T.bc.tI GB' (hr.mono (by decide)) bB' .nil pass0 (by rfl) T.bc.g (pa_cons (pv 4) pa_nil)))) pss_nil))))
      (pss_one (ps_if (PW.pt (pw_or (pt_cmpR op_eq (pv 3) pe_int (nomark _)) (pw_or1 (pt_cmpR op_gt (pe_callB call_len (by rfl) T.len PySem.boot_len (pa_cons (pv 2) pa_nil)) (pv 3) (nomark _))))) (pss_one (ps_raise rfl (takes_of rfl rfl rfl rfl) (pmk_oex T.bc.oex T.bc.iC T.bc.tI GB' (hr.mono (by decide)) bB' .nil pass0 (by rfl) T.bc.g (pa_cons (pv 3) pa_nil)))) pss_nil)))), ?_⟩
    obtain ⟨r, xs, rfl, hr1, lr, hrow⟩ := hR.at
    obtain ⟨e, rfl, he1⟩ := hE.at
    have hzs : z.length ≤ sizeLine := Nat.le_of_lt (small1000 (by omega))
    refine ⟨_, rfl, _, _, rfl, hr1.len, ?_⟩
    refine ⟨_, rfl, r, xs, rfl, hr1, fun J hJ => for_it hJ (fun i σ H1 => ∃ v4 v5 v6 v7 : Option V, σ = [some (.str z), some (.ref r), some (.ref e), some (.int xs.length), v4, v5, v6, v7] ∧ Same H H1 ∧ ∀ (j : Nat) (hj : j < rs.length), j < i → ¬ badRow z.length rs.length es.length j rs[j])
      ⟨none, none, none, none, rfl, Same.refl H, fun j _ h => absurd h (Nat.not_lt_zero _)⟩ (fun i σ H1 _ ⟨_, _, _, _, _, s1, _⟩ => GSq.same s1) ?_ ?_⟩
    · rintro i x σ H1 H2 hi ⟨v4, v5, v6, v7, rfl, s1, hj⟩ ⟨q, b, rfl, hq, rfl, hb⟩
      have hi' : i < rs.length := by omega
      obtain ⟨w5, ts, rfl, hw1, hw2⟩ := hrow i hi' b hb
      have lt : ts.length = rs[i].length := by rw [hw2.length, List.length_map]
      have hri := hrl _ (List.getElem_mem hi')
      have s2 : Same H (L2.upd H1 q (.tup [.int i, .ref w5])) := s1.trans (same_new hq)
      refine ⟨q, _, rfl, SqT.of upd_same, rfl, _, _, rfl, _, _, rfl, rfl, ?_⟩
      generalize L2.upd H1 q (.tup [.int i, .ref w5]) = H3 at s2
      refine ⟨_, rfl, _, _, rfl, (hw1.same s2).len, _, rfl, _, _, rfl, ⟨hzs, rfl⟩, rfl, _, rfl, ?_⟩
      refine ite2 (fun c1 => ?_) (fun c1 => ?_)
      · have c1 : rs[i].length ≠ z.length := by simp [lt] at c1; omega
        have hbad : BadAt z.length rs es i := Or.inl ⟨hi', Or.inl c1, fun j hj' => hj j (by omega) hj'⟩
        refine ⟨_, rfl, by show 1 ≤ 1000; decide, fun a ha => ⟨a, _, rfl, upd_same, fun d hd hda => ⟨rfl, d, [("state", V.int i)], upd_same, ?_, ?_, ?_⟩⟩⟩
        · rw [upd_ne hda, upd_same]
        · rw [upd_ne hda] at hd; exact hd
        · rw [upd_ne hda] at hd
          exact ke i hbad d _ ((raised_of ha hd hda).after s2)
      have c1 : rs[i].length = z.length := by simp [lt] at c1; omega
      refine ⟨_, rfl, _, rfl, _, _, rfl, (he1.same s2).len, _, _, rfl, rfl, _, rfl, ite2 (fun c2 => ?_) (fun c2 => ?_)⟩
      · have c2 : es.length ≤ i := by simpa using c2
        have hbad : BadAt z.length rs es i := Or.inl ⟨hi', Or.inr (Or.inl c2), fun j hj' => hj j (by omega) hj'⟩
        refine ⟨_, rfl, by show 1 ≤ 1000; decide, fun a ha => ⟨a, _, rfl, upd_same, fun d hd hda => ⟨rfl, d, [("state", V.int i)], upd_same, ?_, ?_, ?_⟩⟩⟩
        · rw [upd_ne hda, upd_same]
        · rw [upd_ne hda] at hd; exact hd
        · rw [upd_ne hda] at hd
          exact ke i hbad d _ ((raised_of ha hd hda).after s2)
      have c2 : i < es.length := by simpa using c2
      -- any([..])
      refine ⟨_, rfl, w5, ts, rfl, hw1.same s2, fun J2 hJ2 D hD => lc_it hJ2 (fun j H4 => H4 D = some (.lst (((rs[i].take j).map (okB xs.length)).map V.bl)) ∧ Same H3 H4)
        ⟨upd_same, same_new hD⟩ (fun j H4 _ ⟨_, s4⟩ => GSq.same s4) ?_ ?_⟩
      · rintro j x H4' H4 hjt ⟨hD4, s4⟩ ⟨rfl, hx⟩
        obtain ⟨tt, hj', rfl, htt⟩ := tup_at hw2 hx
        refine ⟨tt, _, rfl, (Kl.same (s2.trans s4)).seqT htt, rfl, _, _, rfl, _, _, rfl, rfl, rfl, ?_⟩
        refine lcYes ?_
        have hlen : (((rs[i].take j).map (okB xs.length)).map V.bl).length < sizeLine := by
          rw [List.length_map, List.length_map, List.length_take]; exact small1000 (by omega)
        have ee : ∀ v : V, v = .bl (okB xs.length (rs[i][j])) → L2.upd H4 D (.lst (((rs[i].take j).map (okB xs.length)).map V.bl ++ [v])) D = some (.lst (((rs[i].take (j + 1)).map (okB xs.length)).map V.bl)) := fun v hv => by
          rw [upd_same, take_more hj', List.map_append, List.map_append, hv]; rfl
        refine ⟨_, rfl, _, _, rfl, rfl, _, rfl, ?_⟩
        by_cases g0 : 0 ≤ (rs[i][j]).1
        · rw [if_pos (decide_eq_true g0)]
          refine ⟨_, rfl, _, _, rfl, rfl, _, rfl, _, hD4, hlen, ee _ ?_, s4.put hD⟩
          unfold okB
          rw [decide_eq_true g0, Bool.true_and]
        · rw [if_neg (by simpa using g0)]
          refine ⟨_, rfl, _, hD4, hlen, ee _ ?_, s4.put hD⟩
          unfold okB
          rw [decide_eq_false g0]; rfl
      · rintro H4 ⟨hD4, s4⟩
        rw [lt, List.take_length] at hD4
        refine ⟨D, _, rfl, SqL.of hD4, _, rfl, ite2 (fun c3 => ?_) (fun c3 => ?_)⟩
        · have c3 : ∃ gb ∈ rs[i], ¬ (0 ≤ gb.1 ∧ gb.1 < rs.length) := by
            obtain ⟨b, hb1, hb2⟩ := List.any_eq_true.mp c3
            obtain ⟨gb, hgb, rfl⟩ := List.mem_map.mp hb1
            refine ⟨gb, hgb, fun h => ?_⟩
            have hb2 : okB xs.length gb = true := hb2
            unfold okB at hb2
            rw [decide_eq_true h.1, decide_eq_true (show gb.1 < (xs.length : Int) by rw [lr]; exact h.2)] at hb2
            exact Bool.noConfusion hb2
          have hbad : BadAt z.length rs es i := Or.inl ⟨hi', Or.inr (Or.inr c3), fun j hj' => hj j (by omega) hj'⟩
          have s5 : Same H H4 := s2.trans s4
          refine ⟨_, rfl, by show 1 ≤ 1000; decide, fun a ha => ⟨a, _, rfl, upd_same, fun d hd hda => ⟨rfl, d, [("state", V.int i)], upd_same, ?_, ?_, ?_⟩⟩⟩
          · rw [upd_ne hda, upd_same]
          · rw [upd_ne hda] at hd; exact hd
          · rw [upd_ne hda] at hd
            exact ke i hbad d _ ((raised_of ha hd hda).after s5)
        · refine ⟨_, _, _, _, rfl, s2.trans s4, fun j hjl hji => ?_⟩
          by_cases e : j = i
          · subst e
            rintro (h | h | ⟨gb, hgb, h⟩)
            · exact h c1
            · omega
            · refine c3 (List.any_eq_true.mpr ⟨true, List.mem_map.mpr ⟨gb, hgb, ?_⟩, rfl⟩)
              unfold okB
              rw [lr]
              by_cases h0 : 0 ≤ gb.1
              · have h1 : ¬ gb.1 < (rs.length : Int) := fun q => h ⟨h0, q⟩
                rw [decide_eq_false h1, Bool.and_false]; rfl
              · rw [decide_eq_false h0]; rfl
          · exact hj j hjl (by omega)
    · rintro σ H1 ⟨v4, v5, v6, v7, rfl, s1, hj⟩
      have hj : ∀ (j : Nat) (hj : j < rs.length), ¬ badRow z.length rs.length es.length j rs[j] := fun j h => hj j h (by omega)
      have bad : rs.length = 0 ∨ rs.length < es.length → BadAt z.length rs es rs.length := fun h => Or.inr ⟨rfl, hj, h⟩
      have hkb : BadAt z.length rs es rs.length → EBC CB H E rs.length := ke rs.length
      rw [← lr] at hkb
      refine ⟨_, rfl, rfl, _, rfl, ite2 (fun c1 => ?_) (fun c1 => ?_)⟩
      · have c1 : xs.length = 0 := by simpa using c1
        refine ⟨_, rfl, by show 1 ≤ 1000; decide, fun a ha => ⟨a, _, rfl, upd_same, fun d hd hda => ⟨rfl, d, [("state", V.int xs.length)], upd_same, ?_, ?_, ?_⟩⟩⟩
        · rw [upd_ne hda, upd_same]
        · rw [upd_ne hda] at hd; exact hd
        · rw [upd_ne hda] at hd
          exact hkb (by rw [lr]; exact bad (Or.inl (by omega))) d _ ((raised_of ha hd hda).after s1)
      have c1 : xs.length ≠ 0 := by simpa using c1
      refine ⟨_, rfl, _, _, rfl, (he1.same s1).len, _, rfl, _, _, rfl, rfl, _, rfl, ite2 (fun c2 => ?_) (fun c2 => ?_)⟩
      · have c2 : xs.length < es.length := by simpa using c2
        refine ⟨_, rfl, by show 1 ≤ 1000; decide, fun a ha => ⟨a, _, rfl, upd_same, fun d hd hda => ⟨rfl, d, [("state", V.int xs.length)], upd_same, ?_, ?_, ?_⟩⟩⟩
        · rw [upd_ne hda, upd_same]
        · rw [upd_ne hda] at hd; exact hd
        · rw [upd_ne hda] at hd
          exact hkb (by rw [lr]; exact bad (Or.inr (by omega))) d _ ((raised_of ha hd hda).after s1)
      have c2 : es.length ≤ xs.length := by simpa using c2
      exact kq ⟨hj, by omega, by omega⟩ _ s1
end
end Vf
set_option Elab.async false
set_option linter.all false
set_option maxRecDepth 100000
set_option maxHeartbeats 4000000
namespace Vf
open PySem L2 PyProof.Rows
theorem kLR : ¬ (("letters" : Str) = "rows") := by decide +kernel
theorem kLE : ¬ (("letters" : Str) = "ends") := by decide +kernel
theorem kRE : ¬ (("rows" : Str) = "ends") := by decide +kernel
/-- a code's attributes -/
def cflds (z : Str) (R E : V) : List (Str × V) := putF "ends" E (putF "rows" R (putF "letters" (.str z) []))
theorem cf_letters (z : Str) (R E : V) : (cflds z R E).lookup ("letters" : Str) = some (.str z) := by
  unfold cflds
  rw [lookup_putF, if_neg kLE, lookup_putF, if_neg kLR, lookup_putF, if_pos rfl]
theorem cf_rows (z : Str) (R E : V) : (cflds z R E).lookup ("rows" : Str) = some R := by
  unfold cflds
  rw [lookup_putF, if_neg kRE, lookup_putF, if_pos rfl]
theorem cf_ends (z : Str) (R E : V) : (cflds z R E).lookup ("ends" : Str) = some E := by
  unfold cflds
  rw [lookup_putF, if_pos rfl]
theorem cf_no (z : Str) (R E : V) {m : Str} (h1 : ¬ m = "letters") (h2 : ¬ m = "rows") (h3 : ¬ m = "ends") : (cflds z R E).lookup m = none := by
  unfold cflds
  rw [lookup_putF, if_neg h3, lookup_putF, if_neg h2, lookup_putF, if_neg h1]
  rfl
/-- a code's object -/
def CodeAt (K : PySem.W.Frag) (C : Addr) (H : Hp) (o : Addr) (z : Str) (rs : List Row) (es : List Int) : Prop :=
  ∃ dx R E, H o = some (.ins C dx (cflds z R E)) ∧ Dp K H R (rowsT rs) ∧ Dp K H E (intsT es)
/-- what is asked of the class -/
structure TxtK (K : PySem.W.Frag) (mg : Str → Option Value) (C fCS B CB fB' : Addr) : Prop extends TxtC K mg B CB fB' where
  cl : Cls K C
  nL : NoAttr K C "letters"
  nR : NoAttr K C "rows"
  nE : NoAttr K C "ends"
  mgCode : mg "Code" = some (.ref C)
  mcheck_states : mg "check_states" = some (.ref fCS)
  kcheck_states : PySem.W.keepIn K (.ref fCS) = true
/-- Code(..), right or wrong; what was there stays -/
def spInit (K : PySem.W.Frag) (C CB : Addr) : Sp := fun vs H Q E' => ∃ (o dx : Addr) (z : Str) (R E : V) (rs : List Row) (es : List Int), vs = [.ref o, .str z, R, E] ∧ H o = some (.ins C dx []) ∧ Rws K H R rs ∧ Ens K H E es ∧ z.length ≤ 26 ∧ rs.length ≤ 100 ∧ es.length ≤ 100 ∧ (∀ r ∈ rs, r.length ≤ 100) ∧
  (AllOk z.length rs es → ∀ H', CodeAt K C H' o z rs es → (∀ b u, H b = some u → b ≠ o → H' b = some u) → Q .non H') ∧ (∀ i, BadAt z.length rs es i → EBC CB H E' i)
section
variable {P : Program} {w : World} {K : PySem.W.Frag} {mg : Str → Option Value} {base : Heap}
abbrev s_Code___init__ : Stmt := inClass (top 18) 0
abbrev N_Code___init__ : List Str := ["self", "values", "rows", "ends", "row", "goal", "bits"]
abbrev P_Code___init__ : List Str := ["self", "values", "rows", "ends"]
theorem sc_Code___init__ : FnScope N_Code___init__ P_Code___init__ (defScope s_Code___init__) := ⟨rfl, rfl, rfl, by decide +kernel, rfl, by decide +kernel, by decide +kernel⟩

theorem ok_init {f fCS C B CB fB' : Addr} {fd fdCS fdB : FuncData} (F : Fun K "__init__" "Code.__init__" s_Code___init__ f fd) (T : TxtK K mg C fCS B CB fB') (FCS : Fun K "check_states" "check_states" s_check_states fCS fdCS) (bcheck_states : Binds K fdCS P_check_states [])
    (FB' : Fun K "__init__" "BadCode.__init__" s_BadCode___init__ fB' fdB) (bB' : Binds K fdB P_BadCode___init__ []) : FnOk P w K mg base (L2.CX P w) 4 f fd P_Code___init__ (spInit K C CB) := by
  have Gcheck_states : FnOk P w K mg base (L2.CX P w) 3 fCS fdCS P_check_states (spCheck K CB) := ok_check FCS T.toTxtC FB' bB'
  refine F.okX sc_Code___init__ (fun vs H Q E h => ?_) (fun cdv A outer s H vs Q E' hr h => ?_)
  · obtain ⟨o, dx, z, R, E, rs, es, rfl, _⟩ := h
    rfl
  · obtain ⟨o, dx, z, R, E, rs, es, rfl, ho, hR, hE, hz, hl, hel, hrl, kq, ke⟩ := h
    refine ⟨_, (pss_cons (ps_expr (pe_call Gcheck_states (hr.mono (by decide)) (by rfl) T.mcheck_states T.kcheck_states bcheck_states .nil (passes_call (takes_of rfl rfl rfl rfl) (fun _ _ _ _ h => h)) (pa_cons (pv 1) (pa_cons (pv 2) (pa_cons (pv 3) pa_nil)))))
      (pss_cons (ps_fld (pv 0) (pv 1) rfl)
      (pss_cons (ps_fld (pv 0) (pe_callTy call_tuple_of (by rfl) T.tuple boot_tuple (pa_cons (pe_lc (own := [("row", 4)]) (g := gName 4) (by rfl) sc_Code___init__.nd (pi_seq (K := K) rfl (pv 2)) (blkOk_by (own := [("row", 4)]) (N := N_Code___init__) (sc := defScope s_Code___init__) (by decide +kernel)) (fun _ _ _ _ _ => pg_name (i := 4) sc_Code___init__.nd rfl (Or.inl rfl)) (fun _ _ _ _ _ => pts_nil) (fun _ _ _ _ _ => (pe_callTy (call_tupleK (K := K) rfl) (by rfl) T.tuple boot_tuple (pa_cons (pe_lc (own := [("goal", 5), ("bits", 6)]) (g := gTup K 2 (gCons (gName 5) (gCons (gName 6) gNil))) (by rfl) sc_Code___init__.nd (pi_seq (K := K) rfl (pv 4)) (blkOk_by (own := [("goal", 5), ("bits", 6)]) (N := N_Code___init__) (by with_unfolding_all rfl)) (fun _ _ _ _ _ => (pg_tup (by rfl) (pgs_cons (pg_name (i := 5) sc_Code___init__.nd rfl (Or.inl rfl)) (pgs_cons (pg_name (i := 6) sc_Code___init__.nd rfl (Or.inl rfl)) pgs_nil)))) (fun _ _ _ _ _ => pts_nil) (fun _ _ _ _ _ => (pe_tup (pa_cons (pv 5) (pa_cons (pv 6) pa_nil))))) pa_nil)))) pa_nil)) rfl)
      (pss_one (ps_fld (pv 0) (pe_callTy call_tuple_of (by rfl) T.tuple boot_tuple (pa_cons (pv 3) pa_nil)) rfl))))), ?_⟩
    refine ⟨_, rfl, _, rfl, _, rfl, z, R, E, rs, es, rfl, hR, hE, hz, hl, hel, hrl, fun hok H1 s1 => ?_, fun i hb => ke i hb⟩
    have k := kq hok
    obtain ⟨r, xs, rfl, hr1, lr, hrow⟩ := hR.at
    obtain ⟨e, rfl, he1⟩ := hE.at
    have ho1 := s1 _ _ ho
    -- self.letters = values
    refine ⟨_, rfl, _, rfl, o, C, dx, [], rfl, ho1, T.cl, T.nL, (by show 0 < 1000; decide), ?_⟩
    have k2 : ∀ b u, H b = some u → b ≠ o → (L2.upd H1 o (.ins C dx (putF "letters" (.str z) []))) b = some u := fun b u h n => by rw [upd_ne n]; exact s1 b u h
    have ho2 : (L2.upd H1 o (.ins C dx (putF "letters" (.str z) []))) o = some (.ins C dx (putF "letters" (.str z) [])) := upd_same
    revert k2 ho2
    generalize L2.upd H1 o (.ins C dx (putF "letters" (.str z) [])) = H2
    intro k2 ho2
    have kl2 : Kl H H2 := fun b u h d => k2 b u h fun q => by rw [q, ho] at h; cases h; exact d
    -- self.rows = ..
    refine ⟨_, rfl, r, xs, rfl, hr1.kl kl2, fun J hJ D hD => lc_it hJ (fun i H4 => ∃ vs : List V, H4 D = some (.lst vs) ∧ DpAll K (L2.del H4 D) vs ((rs.take i).map rowT) ∧ Same H2 H4)
      ⟨[], upd_same, .nil, same_new hD⟩ (fun i H4 _ ⟨_, _, _, s4⟩ => GSq.same s4) ?_ ?_⟩
    · rintro i x H4' H4 hi ⟨vs, hD4, hd4, s4⟩ ⟨rfl, hx⟩
      have hi' : i < rs.length := by omega
      obtain ⟨w5, ts, rfl, hw1, hw2⟩ := hrow i hi' x hx
      have hri := hrl _ (List.getElem_mem hi')
      have lt : ts.length = rs[i].length := by rw [hw2.length, List.length_map]
      have kl4 : Kl H H4 := kl2.trans (Kl.same s4)
      refine ⟨rfl, ?_⟩
      refine lcYes ?_
      refine ⟨_, rfl, w5, ts, rfl, hw1.kl kl4, fun J2 hJ2 D2 hD2 => lc_it hJ2 (fun j H5 => ∃ us : List V, H5 D2 = some (.lst us) ∧ DpAll K (L2.del (L2.del H5 D) D2) us ((rs[i].take j).map tupD) ∧ Same H4 H5)
        ⟨[], upd_same, .nil, same_new hD2⟩ (fun j H5 _ ⟨_, _, _, s5⟩ => GSq.same s5) ?_ ?_⟩
      · rintro j y H5' H5 hjt ⟨us, hD5, hd5, s5⟩ ⟨rfl, hy⟩
        obtain ⟨tt, hj', rfl, htt⟩ := tup_at hw2 hy
        refine ⟨tt, _, rfl, (kl4.trans (Kl.same s5)).seqT htt, rfl, _, _, rfl, _, _, rfl, rfl, rfl, ?_⟩
        refine lcYes ?_
        refine ⟨_, rfl, _, rfl, (by show 2 ≤ sizeLine; decide), fun q hq => ⟨us, ?_, ?_, us ++ [.ref q], upd_same, ?_, ?_⟩⟩
        · rw [upd_ne (ne_of_none hD5 hq)]; exact hD5
        · rw [hd5.length, List.length_map, List.length_take]; exact small1000 (by omega)
        · have nqD2 : q ≠ D2 := (ne_of_none hD5 hq).symm
          have nqD : q ≠ D := (ne_of_none (s5 _ _ hD4) hq).symm
          rw [take_more hj', List.map_append]
          refine (hd5.mv fun b o e _ => ?_).snoc (.tup (SqT.of ?_) (.cons (.int _) (.cons (.int _) .nil)))
          · obtain ⟨h1, h2⟩ := del_some e
            obtain ⟨h3, h4⟩ := del_some h2
            rw [del_ne h1, del_ne h3, upd_ne h1, upd_ne (ne_of_none h4 hq)]
            exact h4
          · rw [del_ne nqD2, del_ne nqD, upd_ne nqD2, upd_same]
        · exact (s5.trans (same_new hq)).put hD2
      · rintro H5 ⟨us, hD5, hd5, s5⟩
        refine ⟨D2, us, rfl, Or.inl ⟨SqL.of hD5, fun t ht => ⟨vs, ?_, ?_, vs ++ [.ref t], upd_same, ?_, ?_⟩⟩⟩
        · rw [upd_ne (ne_of_none (s5 _ _ hD4) ht)]; exact s5 _ _ hD4
        · rw [hd4.length, List.length_map, List.length_take]; exact small1000 (by omega)
        · have ntD : t ≠ D := (ne_of_none (s5 _ _ hD4) ht).symm
          have e0 : Kl (L2.del H5 D) (L2.del (L2.upd (L2.upd H5 t (.tup us)) D (.lst (vs ++ [.ref t]))) D) := fun b o e _ => by
            obtain ⟨h1, h2⟩ := del_some e
            rw [del_ne h1, upd_ne h1, upd_ne (ne_of_none h2 ht)]
            exact h2
          rw [take_more hi', List.map_append]
          refine (hd4.mv (((Kl.same s5).del D).trans e0)).snoc (.tup (xs := us) (SqT.of ?_) ?_)
          · rw [del_ne ntD, upd_ne ntD, upd_same]
          · have := hd5.mv ((Kl.undel _ D2).trans e0)
            rw [lt, List.take_of_length_le (Nat.le_refl _)] at this
            exact this
        · exact ((s4.trans s5).trans (same_new ht)).put hD
    · rintro H4 ⟨vs, hD4, hd4, s4⟩
      rw [lr, List.take_of_length_le (Nat.le_refl _)] at hd4
      refine ⟨D, vs, rfl, Or.inl ⟨SqL.of hD4, fun t ht => ?_⟩⟩
      have s5 : Same H2 (L2.upd H4 t (.tup vs)) := s4.trans (same_new ht)
      have hT : Dp K (L2.upd H4 t (.tup vs)) (.ref t) (rowsT rs) := .tup (SqT.of upd_same) (hd4.mv ((Kl.undel _ _).trans (Kl.same (same_new ht))))
      revert s5 hT
      generalize L2.upd H4 t (.tup vs) = H5
      intro s5 hT
      have ho5 := s5 _ _ ho2
      refine ⟨_, rfl, o, C, dx, _, rfl, ho5, T.cl, T.nR, (by show 1 < 1000; decide), ?_⟩
      -- self.ends = tuple(ends)
      have hnko : ∀ b u, H b = some u → b ≠ o → (L2.upd H5 o (.ins C dx (putF "rows" (.ref t) (putF "letters" (.str z) [])))) b = some u := fun b u h n => by rw [upd_ne n]; exact s5 _ _ (k2 b u h n)
      have hT6 : Dp K (L2.upd H5 o (.ins C dx (putF "rows" (.ref t) (putF "letters" (.str z) [])))) (.ref t) (rowsT rs) := hT.mv fun b u h d => by
        rw [upd_ne (fun q => by rw [q, ho5] at h; cases h; exact d)]; exact h
      have ho6 : (L2.upd H5 o (.ins C dx (putF "rows" (.ref t) (putF "letters" (.str z) [])))) o = some (.ins C dx (putF "rows" (.ref t) (putF "letters" (.str z) []))) := upd_same
      revert hnko hT6 ho6
      generalize L2.upd H5 o (.ins C dx (putF "rows" (.ref t) (putF "letters" (.str z) []))) = H6
      intro hnko hT6 ho6
      have kl6 : Kl H H6 := fun b u h d => hnko b u h fun q => by rw [q, ho] at h; cases h; exact d
      have fin : ∀ (a : Addr) (H7 : Hp), Same H6 H7 → SqT K H7 a (es.map V.int) → Q .non (L2.upd H7 o (.ins C dx (cflds z (.ref t) (.ref a)))) := fun a H7 s7 ha => by
        have kl8 : Kl H7 (L2.upd H7 o (.ins C dx (cflds z (.ref t) (.ref a)))) := fun b u h d => by
          rw [upd_ne (fun q => by rw [q, s7 _ _ ho6] at h; cases h; exact d)]; exact h
        refine k _ ⟨dx, .ref t, .ref a, upd_same, (hT6.mv (Kl.same s7)).mv kl8, (Dp.tup ha (dpAll_ints K H7 es)).mv kl8⟩ fun b u h n => ?_
        rw [upd_ne n]
        exact s7 _ _ (hnko b u h n)
      rcases he1 with h1 | h1
      · exact ⟨_, rfl, e, _, rfl, Or.inl ⟨kl6.seq h1, fun a ha => ⟨_, rfl, o, C, dx, _, rfl, (same_new ha) _ _ ho6, T.cl, T.nE, (by show 2 < 1000; decide), fin a _ (same_new ha) (SqT.of upd_same)⟩⟩⟩
      · exact ⟨_, rfl, e, _, rfl, Or.inr ⟨kl6.seqT h1, ⟨_, rfl, o, C, dx, _, rfl, ho6, T.cl, T.nE, (by show 2 < 1000; decide), fin e _ (Same.refl _) (kl6.seqT h1)⟩⟩⟩
end
end Vf
set_option Elab.async false
set_option linter.all false
set_option maxRecDepth 100000
set_option maxHeartbeats 4000000
namespace Vf
open PySem L2 PyProof.Rows
/-- what is asked of the errors and the methods -/
structure TxtL (K : PySem.W.Frag) (mg : Str → Option Value) (C fCS fSP B CB fB' CV fV fCL fRun : Addr) : Prop extends TxtK K mg C fCS B CB fB' where
  mstrange_place : mg "strange_place" = some (.ref fSP)
  kstrange_place : PySem.W.keepIn K (.ref fSP) = true
  bv : ErrT K mg "BadValue" "place" CV fV
  mtCL : Meth K C "check_letters" fCL
  mtRun : Meth K C "run" fRun
section
variable {P : Program} {w : World} {K : PySem.W.Frag} {mg : Str → Option Value} {base : Heap}
abbrev s_BadValue___init__ : Stmt := inClass (top 4) 0
abbrev N_BadValue___init__ : List Str := ["self", "place"]
abbrev P_BadValue___init__ : List Str := ["self", "place"]
theorem sc_BadValue___init__ : FnScope N_BadValue___init__ P_BadValue___init__ (defScope s_BadValue___init__) := ⟨rfl, rfl, rfl, by decide +kernel, rfl, by decide +kernel, by decide +kernel⟩

theorem ok_bv {f B C fI : Addr} {fd : FuncData} (F : Fun K "__init__" "BadValue.__init__" s_BadValue___init__ f fd) (Tb : BaseT K mg "CodeError" B) (T : ErrT K mg "BadValue" "place" C fI) : FnOk P w K mg base CX0 1 f fd P_BadValue___init__ (spErr C "place") := by
  refine F.ok sc_BadValue___init__ (fun vs H Q E h => ?_) (fun cdv A outer s H vs Q E hr h => ?_)
  · obtain ⟨a, v, rfl, _⟩ := h
    rfl
  · obtain ⟨a, v, rfl, ha, k⟩ := h
    refine ⟨_, pss_cons (ps_expr (pe_clsinit Tb (by rfl) (pa_cons (pv 0) (pa_cons pe_str pa_nil)))) (pss_one (ps_ost (pv 0) (pv 1))), ?_⟩
    refine ⟨_, rfl, a, C, _, rfl, by show 1 ≤ 1000; decide, T.oex, ha, ?_⟩
    exact ⟨_, rfl, _, rfl, a, C, rfl, T.oex, T.nf, Or.inl ⟨ha, fun d h1 h2 => k d h1 h2⟩⟩
/-- the errors that leave: BadValue with its place -/
def EBV (CV : Addr) (H : Hp) (E : XK) (i : Nat) : Prop := ∀ d H', Raised H H' d "place" (.int i) → E (.ref CV) (some d) H'
def spCL (K : PySem.W.Frag) (C CV : Addr) : Sp := fun vs H Q E => ∃ (o : Addr) (z y : Str) (rs : List Row) (es : List Int), vs = [.ref o, .str y] ∧ CodeAt K C H o z rs es ∧
  (strange z y = none → ∀ H', Same H H' → Q .non H') ∧ (∀ i, strange z y = some i → EBV CV H E i)
abbrev s_Code_check_letters : Stmt := inClass (top 18) 7
abbrev N_Code_check_letters : List Str := ["self", "column", "place"]
abbrev P_Code_check_letters : List Str := ["self", "column"]
theorem sc_Code_check_letters : FnScope N_Code_check_letters P_Code_check_letters (defScope s_Code_check_letters) := ⟨rfl, rfl, rfl, by decide +kernel, rfl, by decide +kernel, by decide +kernel⟩

theorem ok_cl {f fCS fSP B C CB fB' CV fV fCL fRun : Addr} {fd fdSP fdV : FuncData} (F : Fun K "check_letters" "Code.check_letters" s_Code_check_letters f fd) (T : TxtL K mg C fCS fSP B CB fB' CV fV fCL fRun) (FSP : Fun K "strange_place" "strange_place" s_strange_place fSP fdSP) (bstrange_place : Binds K fdSP P_strange_place [])
    (FV : Fun K "__init__" "BadValue.__init__" s_BadValue___init__ fV fdV) (bV : Binds K fdV P_BadValue___init__ []) : FnOk P w K mg base (L2.CX P w) 3 f fd P_Code_check_letters (spCL K C CV) := by
  have Gstrange_place : FnOk P w K mg base CX0 1 fSP fdSP P_strange_place spStrange := ok_strange FSP ⟨T.enumerate⟩
  have GV : FnOk P w K mg base CX0 1 fV fdV P_BadValue___init__ (spErr CV "place") := ok_bv FV T.base T.bv
  refine F.okX sc_Code_check_letters (fun vs H Q E h => ?_) (fun cdv A outer s H vs Q E hr h => ?_)
  · obtain ⟨o, z, y, rs, es, rfl, _⟩ := h
    rfl
  · obtain ⟨o, z, y, rs, es, rfl, ⟨dx, R, Ev, ho, hR, hE⟩, kq, ke⟩ := h
    refine ⟨_, (pss_cons (ps_set (i := 2) sc_Code_check_letters.nd rfl (Or.inl rfl) (pe_call Gstrange_place (hr.mono (by decide)) (by rfl) T.mstrange_place T.kstrange_place bstrange_place .nil pass0 (pa_cons (pe_fld (pv 0) rfl) (pa_cons (pv 1) pa_nil))))
      (pss_one (ps_if (pt_cmpR op_notN (pv 2) pe_non (nomark _)) (pss_one (ps_raise rfl (takes_of rfl rfl rfl rfl) (pmk_oex T.bv.oex T.bv.iC T.bv.tI GV (hr.mono (by decide)) bV .nil pass0 (by rfl) T.bv.g (pa_cons (pv 2) pa_nil)))) pss_nil))), ?_⟩
    refine ⟨_, rfl, o, C, dx, _, _, rfl, ho, T.cl, T.nL, cf_letters _ _ _, _, rfl, z, y, rfl, fun H1 s1 => ?_⟩
    cases hs : strange z y with
    | none =>
      refine ⟨_, rfl, rfl, _, rfl, ite2 (fun c => absurd c (by simp)) (fun _ => ?_)⟩
      exact kq hs H1 s1
    | some i =>
      refine ⟨_, rfl, rfl, _, rfl, ite2 (fun _ => ?_) (fun c => absurd c (by simp))⟩
      refine ⟨_, rfl, by show 1 ≤ 1000; decide, fun a ha => ⟨a, _, rfl, upd_same, fun d hd hda => ⟨rfl, d, [("place", V.int i)], upd_same, ?_, ?_, ?_⟩⟩⟩
      · rw [upd_ne hda, upd_same]
      · rw [upd_ne hda] at hd; exact hd
      · rw [upd_ne hda] at hd
        exact ke i hs d _ ((raised_of ha hd hda).after s1)
def spRun (K : PySem.W.Frag) (C : Addr) : Sp := fun vs H Q _ => ∃ (o : Addr) (s : Int) (z y : Str) (rs : List Row) (es : List Int), vs = [.ref o, .int s, .str y] ∧ CodeAt K C H o z rs es ∧ GoodS z.length rs ∧ z.length ≤ 26 ∧ (∀ c ∈ TL.tl y, c ∈ TL.tl z) ∧ 0 ≤ s ∧ s < rs.length ∧
  ∀ (t : Addr) (H' : Hp), Same H H' → H' t = some (.tup [.int (walkR rs (TL.tl z) s (TL.tl y)).1, .int (walkR rs (TL.tl z) s (TL.tl y)).2]) → Q (.ref t) H'
abbrev s_Code_run : Stmt := inClass (top 18) 8
abbrev N_Code_run : List Str := ["self", "state", "word", "total", "letter", "bits"]
abbrev P_Code_run : List Str := ["self", "state", "word"]
theorem sc_Code_run : FnScope N_Code_run P_Code_run (defScope s_Code_run) := ⟨rfl, rfl, rfl, by decide +kernel, rfl, by decide +kernel, by decide +kernel⟩

theorem ok_run {f C fCS B CB fB' : Addr} {fd : FuncData} (F : Fun K "run" "Code.run" s_Code_run f fd) (T : TxtK K mg C fCS B CB fB') : FnOk P w K mg base CX0 1 f fd P_Code_run (spRun K C) := by
  refine F.ok sc_Code_run (fun vs H Q E h => ?_) (fun cdv A outer s H vs Q E hr h => ?_)
  · obtain ⟨o, s, z, y, rs, es, rfl, _⟩ := h
    rfl
  · obtain ⟨o, s0, z, y, rs, es, rfl, ⟨dx, R, Ev, ho, hR, hE⟩, hg, hz, hy, h0, h1, k⟩ := h
    refine ⟨_, (pss_cons (ps_set (i := 3) sc_Code_run.nd rfl (Or.inl rfl) pe_int)
      (pss_cons (ps_for PassesOwn.never rfl (pi_str (pv 2)) (pg_name (i := 4) sc_Code_run.nd rfl (Or.inl rfl)) (pss_cons (ps_asg (pe_ix ix_tup (pe_ix ix_tup (pe_fld (pv 0) rfl) (pv 1) (fun _ _ => rfl)) (pe_m1 PySem.F.slot_str_find PySem.F.type_str_find mt_find (pe_fld (pv 0) rfl) (pv 4)) (fun _ _ => rfl)) (pg_tup (by rfl) (pgs_cons (pg_name (i := 1) sc_Code_run.nd rfl (Or.inl rfl)) (pgs_cons (pg_name (i := 5) sc_Code_run.nd rfl (Or.inl rfl)) pgs_nil))))
      (pss_one (ps_aug (i := 3) sc_Code_run.nd rfl (Or.inl rfl) (pv 5) ip_add))))
      (pss_one (ps_ret (pe_tup (pa_cons (pv 1) (pa_cons (pv 3) pa_nil))))))), ?_⟩
    obtain ⟨ra, xs, rfl, hR1, hR2⟩ := hR.tupE
    have lz : (TL.tl z).length = z.length := (TL.len_tl z).symm
    refine ⟨_, rfl, y, rfl, for_it walk_strS (fun i σ H1 => ∃ v4 v5 : Option V, σ = [some (.ref o), some (.int (walkR rs (TL.tl z) s0 ((TL.tl y).take i)).1), some (.str y), some (.int (walkR rs (TL.tl z) s0 ((TL.tl y).take i)).2), v4, v5] ∧ H1 = H)
      ⟨none, none, rfl, rfl⟩ (fun _ _ _ _ _ => trivial) ?_ ?_⟩
    · rintro i x σ H2 H1 hi ⟨v4, v5, rfl, rfl⟩ ⟨rfl, c, hc, rfl⟩
      obtain ⟨hlt, he⟩ := List.getElem?_eq_some_iff.mp hc
      obtain ⟨a0, a1⟩ := walkR_ok hg lz h0 h1 hy i (Nat.le_of_lt hlt)
      have hcz : c ∈ TL.tl z := hy c (by rw [← he]; exact List.getElem_mem hlt)
      have hidx : (TL.tl z).idxOf c < z.length := by rw [← lz]; exact idx_lt hcz
      obtain ⟨g1, g2, ge, gb0, gb1⟩ := at_row hg a0 a1 hidx
      rw [walkR_more hlt, he]
      revert a0 a1 g1 g2 ge gb0 gb1
      generalize walkR rs (TL.tl z) s0 ((TL.tl y).take i) = sp
      intro a0 a1 g1 g2 ge gb0 gb1
      obtain ⟨v, hv, hrow⟩ := hR2.get (i := sp.1.toNat) (d := rowT rs[sp.1.toNat]) (by rw [List.getElem?_map, List.getElem?_eq_getElem g1]; rfl)
      obtain ⟨w5, ts, rfl, hw1, hw2⟩ := hrow.tupE
      obtain ⟨v', hv', htup⟩ := hw2.get (i := (TL.tl z).idxOf c) (d := tupD rs[sp.1.toNat][(TL.tl z).idxOf c]) (by rw [List.getElem?_map, List.getElem?_eq_getElem g2]; rfl)
      obtain ⟨tt, us, rfl, ht1, ht2⟩ := htup.tupE
      cases ht2 with
      | cons hA hB =>
        obtain rfl := hA.intE
        cases hB with
        | cons hB hC =>
          obtain rfl := hB.intE
          cases hC
          refine ⟨_, rfl, o, C, dx, _, _, rfl, ho, T.cl, T.nR, cf_rows _ _ _, _, rfl, ra, xs, sp.1, _, rfl, rfl, hR1, at_of (Int.toNat_of_nonneg a0).symm hv, ?_⟩
          refine ⟨_, rfl, o, C, dx, _, _, rfl, ho, T.cl, T.nL, cf_letters _ _ _, ⟨_, rfl⟩, _, rfl, z, sg c, rfl, rfl, ?_⟩
          rw [find_sg hcz]
          refine ⟨w5, ts, _, _, rfl, rfl, hw1, at_of rfl hv', ?_⟩
          refine ⟨tt, _, rfl, ht1, rfl, _, _, rfl, _, _, rfl, rfl, ?_⟩
          refine ⟨_, rfl, _, rfl, _, _, rfl, rfl, some (.str (sg c)), some (.int (rs[sp.1.toNat][(TL.tl z).idxOf c]).2), ?_, rfl⟩
          have e1 : stepR rs (TL.tl z) sp c = ((rs[sp.1.toNat][(TL.tl z).idxOf c]).1, sp.2 + (rs[sp.1.toNat][(TL.tl z).idxOf c]).2) := by
            unfold stepR
            simp only [ge]
          rw [e1]
          rfl
    · rintro σ H1 ⟨v4, v5, rfl, rfl⟩
      refine ⟨_, rfl, _, rfl, by show 2 ≤ sizeLine; decide, fun t ht => k t _ (same_new ht) ?_⟩
      rw [upd_same, TL.len_tl, List.take_length]
end
theorem strange_none {z y : Str} (h : strange z y = none) : ∀ c ∈ TL.tl y, c ∈ TL.tl z := fun c hc => by
  have := List.findIdx?_eq_none_iff.mp h c hc
  simpa using this
theorem CodeAt.same {K : PySem.W.Frag} {C o : Addr} {H H' : Hp} {z : Str} {rs : List Row} {es : List Int} (c : CodeAt K C H o z rs es) (s : Same H H') : CodeAt K C H' o z rs es := by
  obtain ⟨dx, R, E, h1, h2, h3⟩ := c
  exact ⟨dx, R, E, s _ _ h1, h2.mv (Kl.same s), h3.mv (Kl.same s)⟩
section
variable {P : Program} {w : World} {K : PySem.W.Frag} {mg : Str → Option Value} {base : Heap}
def spLen (K : PySem.W.Frag) (C CV : Addr) : Sp := fun vs H Q E => ∃ (o : Addr) (z y : Str) (rs : List Row) (es : List Int), vs = [.ref o, .str y] ∧ CodeAt K C H o z rs es ∧ GoodS z.length rs ∧ es.length = rs.length ∧ 0 < rs.length ∧ z.length ≤ 26 ∧
  (strange z y = none → ∀ H', Same H H' → Q (.int (lenR rs es (TL.tl z) (TL.tl y))) H') ∧ (∀ i, strange z y = some i → EBV CV H E i)
abbrev s_Code_length : Stmt := inClass (top 18) 5
abbrev N_Code_length : List Str := ["self", "column", "state", "bits"]
abbrev P_Code_length : List Str := ["self", "column"]
theorem sc_Code_length : FnScope N_Code_length P_Code_length (defScope s_Code_length) := ⟨rfl, rfl, rfl, by decide +kernel, rfl, by decide +kernel, by decide +kernel⟩

theorem ok_len {f fCS fSP B C CB fB' CV fV fCL fRun : Addr} {fd fdSP fdV fdCL fdR : FuncData} (F : Fun K "length" "Code.length" s_Code_length f fd) (T : TxtL K mg C fCS fSP B CB fB' CV fV fCL fRun) (FSP : Fun K "strange_place" "strange_place" s_strange_place fSP fdSP) (bstrange_place : Binds K fdSP P_strange_place [])
    (FV : Fun K "__init__" "BadValue.__init__" s_BadValue___init__ fV fdV) (bV : Binds K fdV P_BadValue___init__ []) (FCL : Fun K "check_letters" "Code.check_letters" s_Code_check_letters fCL fdCL) (bCL : Binds K fdCL P_Code_check_letters [])
    (FR : Fun K "run" "Code.run" s_Code_run fRun fdR) (bR : Binds K fdR P_Code_run []) : FnOk P w K mg base (L2.CX P w) 4 f fd P_Code_length (spLen K C CV) := by
  have GCL : FnOk P w K mg base (L2.CX P w) 3 fCL fdCL P_Code_check_letters (spCL K C CV) := ok_cl FCL T FSP bstrange_place FV bV
  have GR : FnOk P w K mg base CX0 1 fRun fdR P_Code_run (spRun K C) := ok_run FR T.toTxtK
  refine F.okX sc_Code_length (fun vs H Q E h => ?_) (fun cdv A outer s H vs Q E hr h => ?_)
  · obtain ⟨o, z, y, rs, es, rfl, _⟩ := h
    rfl
  · obtain ⟨o, z, y, rs, es, rfl, hC, hg, hl, hp, hz, kq, ke⟩ := h
    refine ⟨_, (pss_cons (ps_expr (pe_meth (pv 0) T.cl T.mtCL GCL (hr.mono (by decide)) bCL .nil (passes_call (takes_of rfl rfl rfl rfl) (fun _ _ _ _ h => h)) (pa_cons (pv 1) pa_nil)))
      (pss_cons (ps_asg (pe_meth (pv 0) T.cl T.mtRun GR (hr.mono (by decide)) bR .nil pass0 (pa_cons pe_int (pa_cons (pv 1) pa_nil))) (pg_tup (by rfl) (pgs_cons (pg_name (i := 2) sc_Code_length.nd rfl (Or.inl rfl)) (pgs_cons (pg_name (i := 3) sc_Code_length.nd rfl (Or.inl rfl)) pgs_nil))))
      (pss_one (ps_ret (pe_op op_add (pv 3) (pe_ix ix_tup (pe_fld (pv 0) rfl) (pv 2) (fun _ _ => rfl))))))), ?_⟩
    obtain ⟨dx, R, Ev, ho, hR, hE⟩ := id hC
    refine ⟨_, rfl, o, dx, _, rfl, ho, cf_no _ _ _ (by decide +kernel) (by decide +kernel) (by decide +kernel), _, rfl, o, z, y, rs, es, rfl, hC, fun hs H1 s1 => ?_, ke⟩
    have hC1 := hC.same s1
    obtain ⟨dx, R, Ev, ho, hR, hE⟩ := id hC1
    have hy := strange_none hs
    refine ⟨_, rfl, o, dx, _, rfl, ho, cf_no _ _ _ (by decide +kernel) (by decide +kernel) (by decide +kernel), _, rfl, o, 0, z, y, rs, es, rfl, hC1, hg, hz, hy, by decide, by omega, fun t H2 s2 ht => ?_⟩
    obtain ⟨w0, w1⟩ := walkR_ok hg (TL.len_tl z).symm (s := 0) (by decide) (by omega) hy (TL.tl y).length (Nat.le_refl _)
    rw [List.take_length] at w0 w1
    obtain ⟨dx, R, Ev, ho, hR, hE⟩ := id (hC1.same s2)
    obtain ⟨ea, xs, rfl, hE1, hE2⟩ := hE.tupE
    obtain rfl := dpAll_intsE hE2
    refine ⟨t, _, rfl, SqT.of ht, rfl, _, _, rfl, _, _, rfl, rfl, ?_⟩
    have he : (walkR rs (TL.tl z) 0 (TL.tl y)).1.toNat < es.length := by omega
    refine ⟨_, rfl, _, rfl, o, C, dx, _, _, rfl, ho, T.cl, T.nE, cf_ends _ _ _, _, rfl, ea, _, _, _, rfl, rfl, hE1, at_of (Int.toNat_of_nonneg w0).symm (by rw [List.getElem?_map, List.getElem?_eq_getElem he]; rfl), _, _, rfl, rfl, ?_⟩
    have e : lenR rs es (TL.tl z) (TL.tl y) = (walkR rs (TL.tl z) 0 (TL.tl y)).2 + es[(walkR rs (TL.tl z) 0 (TL.tl y)).1.toNat] := by
      unfold lenR
      rw [List.getD_eq_getElem?_getD, List.getElem?_eq_getElem he]
      rfl
    have := kq hs H2 (s1.trans s2)
    rw [e] at this
    exact this
end
end Vf
set_option Elab.async false
set_option linter.all false
set_option maxRecDepth 100000
set_option maxHeartbeats 4000000
/-! C(..) in a try: what is raised is wished for at the caller's slots -/
namespace L2
open PySem PySem.Spec PyProof.Rows
section
variable {X : Cx} {CX : CXT} {k : Nat} {f C : Addr} {fd : FuncData} {ps : List Str} {sp : Sp} {dvs : List V} {ds : List Value} {E : St → XK} {x : Str} {p pos : Pos} {e : Expr} {es : List Expr} {t : TA}
theorem run_makeV {pins : List (Addr × Obj)} {σ : St} {H : Hp} {s : Shared} {Q : VK} {us : List Value} {vs : List V} (M : Mk X.K C f) (F : FnOk X.prog X.w X.K X.mg X.base CX k f fd ps sp) (hr : Room (k + 1) X.A) (hb : Binds X.K fd ps ds) (hd : Vals dvs ds)
    (hx : PassesAt CX X σ (E σ)) (I : Inv X pins σ H s) (r : Vals vs us)
    (h : ∀ x dx, H x = none → H dx = none → dx ≠ x → sp (.ref x :: (vs ++ dvs)) (upd (upd H dx (.own x)) x (.ins C dx [])) (fun v H2 => v = .non ∧ Q (.ref x) H2) (E σ)) :
    wpAny (model X.prog X.w) X.A (call (.ref C) us) (EP X pins σ Q) X.xe s := by
  have hq := h (s.heap.objs.size + 1) s.heap.objs.size (I.hok.fresh (Nat.le_succ _)) (I.hok.fresh (Nat.le_refl _)) (Nat.ne_of_lt (Nat.lt_succ_self _))
  have I2 := Inv.made (C := C) I
  have r2 : Vals (V.ref (s.heap.objs.size + 1) :: (vs ++ dvs)) (Value.ref (s.heap.objs.size + 1) :: (us ++ ds)) := .cons rfl (r.append hd)
  have hl : (Value.ref (s.heap.objs.size + 1) :: us ++ ds).length = ps.length := by
    have e := r2.length
    rw [F.len _ _ _ _ hq] at e
    exact e.symm
  refine wpAny_call (make_map (f := f) I.kIn M.makes M.init (beq_iff_eq.mp M.fn) (codeAny_mono (F.run _ X.stack _ _ ⟨Value.ref (s.heap.objs.size + 1) :: us, []⟩ (Value.ref (s.heap.objs.size + 1) :: (us ++ ds)) _ _ (E σ) (hr.make C us [])
    (I2.env0.make C us []) (hb _ (Value.ref (s.heap.objs.size + 1) :: us) I2.kIn hl) r2 hq) fun r s' hq' => ?_))
  cases r with
  | error e => exact hx pins _ _ e s' I2 hq'
  | ok fl =>
    cases fl with
    | ret u =>
      obtain ⟨v, H', I3, rv, ev, q3⟩ := I2.after hq'
      subst ev
      exact ⟨rv, ⟨V.ref (s.heap.objs.size + 1), H', I3, rfl, q3⟩⟩
    | next => exact False.elim hq'
    | brk => exact False.elim hq'
    | cont => exact False.elim hq'
def tMakeV (C : Addr) (sp : Sp) (dvs : List V) (E : St → XK) (t : TA) : TE := fun σ H Q => t σ H fun vs H1 => ∀ x dx, H1 x = none → H1 dx = none → dx ≠ x →
  sp (.ref x :: (vs ++ dvs)) (upd (upd H1 dx (.own x)) x (.ins C dx [])) (fun v H2 => v = .non ∧ Q (.ref x) H2) (E σ)
theorem pe_makeV (M : Mk X.K C f) (F : FnOk X.prog X.w X.K X.mg X.base CX k f fd ps sp) (hr : Room (k + 1) X.A) (hg : Gl X x) (hm : X.mg x = some (.ref C)) (hb : Binds X.K fd ps ds) (hd : Vals dvs ds) (hx : ∀ σ, PassesAt CX X σ (E σ))
    (ha : PA X (e :: es) t) (hdb : (x == ("__debug__" : Str)) = false := by decide) (he : starEach (e :: es) X.env = (false, eval e X.env) :: starEach es X.env := by rfl) (hpl : (backTo pos (starEach es X.env)).any (·.1) = false := by rfl) :
    PE X (.Call (.Name x p) (e :: es) [] pos) (tMakeV C sp dvs E t) := by
  refine ⟨fun pins s σ H Q I h => ?_⟩
  refine wpAny_Call_Name_kw (ld_glob I hg hm ?_ hdb)
  refine PySem.W.callWith_K (h₀ := X.base) I.ok.mod.kin M.kp (thn (ha.run pos pins s σ H _ I h) fun us s1 ⟨vs, H1, I1, r, q⟩ => ⟨I1.kIn, ?_⟩) he hpl
  exact run_makeV M F hr hb hd (hx σ) I1 r q
end
end L2
set_option Elab.async false
set_option linter.all false
set_option maxRecDepth 100000
set_option maxHeartbeats 4000000
namespace Vf
open PySem L2 PyProof.Rows
open NdefX LamX
/-- one letter on: a new pair of the key behind and the bits -/
def spStep2 {κ : Type} [DecidableEq κ] (kd : Kd κ) (st : κ → Nat → κ) (bt : κ → Nat → Int) (Dm : κ → Prop) (z : Str) : Sp := fun vs H Q _ => ∃ (v : V) (k : κ) (c : Nat), vs = [v, .str (sg c)] ∧ kd.at_ H v k ∧ Dm k ∧ c ∈ TL.tl z ∧
  ∀ t v' H', Same H H' → H' t = some (.tup [v', .int (bt k c)]) → kd.at_ H' v' (st k c) → Q (.ref t) H'
def spEnd {κ : Type} [DecidableEq κ] (kd : Kd κ) (en : κ → Int) (Dm : κ → Prop) : Sp := fun vs H Q _ => ∃ (v : V) (k : κ), vs = [v] ∧ kd.at_ H v k ∧ Dm k ∧ ∀ H', Same H H' → Q (.int (en k)) H'
/-- the rows of the made code -/
def rowsMade {κ : Type} (bt : κ → Nat → Int) (L : List Nat) (ks : List κ) (rows : List (List Nat)) : List Row := List.zipWith (fun k row => List.zipWith (fun c (n : Nat) => ((n : Int), bt k c)) L row) ks rows
theorem made_ok {κ : Type} {bt : κ → Nat → Int} {en : κ → Int} {L : List Nat} {m : Nat} {ks : List κ} {rows : List (List Nat)} (hm : L.length = m) (hd : rows.length = ks.length) (hp : 0 < ks.length) (hall : ∀ row ∈ rows, row.length = L.length ∧ ∀ x ∈ row, x < ks.length) : AllOk m (rowsMade bt L ks rows) (ks.map en) := by
  have hl : (rowsMade bt L ks rows).length = ks.length := by unfold rowsMade; rw [List.length_zipWith]; omega
  refine ⟨fun j hj hb => ?_, by omega, by rw [List.length_map]; omega⟩
  have hj1 : j < ks.length := by omega
  have hj2 : j < rows.length := by omega
  have e : (rowsMade bt L ks rows)[j] = List.zipWith (fun c (n : Nat) => ((n : Int), bt ks[j] c)) L rows[j] := by
    have e0 : (rowsMade bt L ks rows)[j]? = some (List.zipWith (fun c (n : Nat) => ((n : Int), bt ks[j] c)) L rows[j]) := by
      unfold rowsMade
      rw [List.getElem?_zipWith, List.getElem?_eq_getElem hj1, List.getElem?_eq_getElem hj2]
    rw [List.getElem?_eq_getElem hj] at e0
    exact Option.some.inj e0
  obtain ⟨h1, h2⟩ := hall _ (List.getElem_mem hj2)
  rcases hb with h | h | ⟨gb, h, h'⟩
  · rw [e, List.length_zipWith] at h; omega
  · rw [List.length_map] at h; omega
  · rw [e] at h
    obtain ⟨i, hi, q⟩ := List.getElem_of_mem h
    rw [List.getElem_zipWith] at q
    rw [List.length_zipWith] at hi
    have := h2 rows[j][i] (List.getElem_mem _)
    rw [← q] at h'
    apply h'
    rw [hl]
    dsimp only
    omega
theorem ok_not_bad {m : Nat} {rs : List Row} {es : List Int} {i : Nat} (h : AllOk m rs es) : ¬ BadAt m rs es i := by
  intro b
  rcases b with ⟨hi, hb, _⟩ | ⟨_, _, hb⟩
  · exact h.1 i hi hb
  · have := h.2.1
    have := h.2.2
    omega
abbrev s_made : Stmt := top 23
abbrev N_made : List Str := ["values", "start", "step", "end", "goal", "memories", "goals", "rows", "memory", "numbers", "value", "number"]
abbrev P_made : List Str := ["values", "start", "step", "end"]
theorem sc_made : FnScope N_made P_made (defScope s_made) := ⟨rfl, rfl, rfl, by decide +kernel, rfl, by decide +kernel, by decide +kernel⟩

abbrev n_made_goal : Stmt := (defBody s_made).getD 0 (.Pass ⟨0, 0, 0, 0⟩)
abbrev N_made_goal : List Str := ["memory", "value", "step"]
abbrev P_made_goal : List Str := ["memory", "value"]
abbrev R_made_goal : List Str := ["step"]
theorem ns_made_goal : NScope N_made_goal P_made_goal R_made_goal (C8.fnScope n_made_goal) := nscope_by (by decide +kernel)
theorem nd_made_goal : ndefB (defScope s_made) (C8.fnScope n_made_goal) R_made_goal = true := by decide +kernel
theorem nc_made_goal : cellsB (defScope s_made) (C8.fnScope n_made_goal) = true := by decide +kernel

abbrev Q_made : Str := (envOfC "made" (defScope s_made) 0 0 .none).qual
structure TxtM (K : PySem.W.Frag) (mg : Str → Option Value) (bh : Heap) (NT : List NTab) (C fCS B CB fB' fX cM pM : Addr) : Prop extends TxtK K mg C fCS B CB fB' where
  zip : mg "zip" = none
  mexplored : mg "explored" = some (.ref fX)
  kexplored : PySem.W.keepIn K (.ref fX) = true
  most : ∃ t, mg "MOST_STATES" = some (.int 40 t)
  tbM : TabB bh mg cM pM
  tmM : (pM, fun _ _ => Q_made ++ "goal") ∈ NT
  tuM : ∀ p ∈ NT, p.1 = pM → p.2 = fun _ _ => Q_made ++ "goal"
section
variable {P : Program} {w : World} {K : PySem.W.Frag} {mg : Str → Option Value} {base : Heap}
/-- goal: the key of the pair alone -/
theorem nok_goal {κ : Type} [DecidableEq κ] {kd : Kd κ} {st : κ → Nat → κ} {bt : κ → Nat → Int} {Dm : κ → Prop} {z : Str} {S : Hp → Prop} {f fg c' : Addr} {cl : List (Str × Addr)} {q : Str}
    (FS : FV P w K mg base CX0 6 f S (spStep2 kd st bt Dm z)) (hst : Stab S) :
    NOk P w K mg base CX0 7 fg (NF.of n_made_goal "goal" q cl c') P_made_goal R_made_goal (fun ws vs H Q E => ws = [some (.ref f)] ∧ S H ∧ spStep kd st Dm z vs H Q E) := by
  refine nok_of ns_made_goal (fun doc pm ctv us hl => match us, hl with | [_, _], _ => rfl) (fun ws vs H Q E h => ?_) (fun A outer s H vs ws Q E hr h1 h2 h3 h => ?_)
  · obtain ⟨_, _, v, k, c, rfl, _⟩ := h
    rfl
  · obtain ⟨rfl, hS, v, k, c, rfl, hat, hD, hc, kq⟩ := h
    refine ⟨_, (pss_one (ps_ret (pe_ix ix_tup (pcv 2 FS (hr.mono (by decide)) pass0 (pa_cons (pv 0) (pa_cons (pv 1) pa_nil))) pe_int (fun _ _ => rfl)))), ?_⟩
    refine ⟨rfl, hS, _, rfl, _, rfl, hS, v, k, c, rfl, hat, hD, hc, fun t v' H' s1 ht hat' => ?_⟩
    exact ⟨t, _, 0, v', rfl, rfl, SqT.of ht, rfl, kq v' H' s1 hat'⟩
def RaisedT (NT : List NTab) (H H' : Hp) (d : Addr) (f : Str) (v : V) : Prop := H d = none ∧ H' d = some (.xd [(f, v)]) ∧ SameT NT H H'
def spMade (P : Program) (w : World) (K : PySem.W.Frag) (mg : Str → Option Value) (base : Heap) (NT : List NTab) (C CT : Addr) {κ : Type} [DecidableEq κ] (kd : Kd κ) : Sp := fun vs H Q E => ∃ (z : Str) (v0 : V) (f g : Addr) (s0 : κ) (st : κ → Nat → κ) (bt : κ → Nat → Int) (en : κ → Int) (Dm : κ → Prop) (S S' : Hp → Prop),
  vs = [.str z, v0, .ref f, .ref g] ∧ kd.at_ H v0 s0 ∧ Dm s0 ∧ (∀ k c, Dm k → c ∈ TL.tl z → Dm (st k c)) ∧ S H ∧ S' H ∧ Stab S ∧ Stab S' ∧ FV P w K mg base CX0 6 f S (spStep2 kd st bt Dm z) ∧ FV P w K mg base CX0 6 g S' (spEnd kd en Dm) ∧ z.length ≤ 26 ∧ TabsN NT H ∧
  ((turns st (TL.tl z) s0 40).1.length ≤ 40 → ∀ o H', SameT NT H H' → CodeAt K C H' o z (rowsMade bt (TL.tl z) (turns st (TL.tl z) s0 40).1 (turns st (TL.tl z) s0 40).2) ((turns st (TL.tl z) s0 40).1.map en) → Q (.ref o) H') ∧
  (40 < (turns st (TL.tl z) s0 40).1.length → ∀ d H', RaisedT NT H H' d "what" (.str "states") → E (.ref CT) (some d) H')
theorem ok_made {κ : Type} [DecidableEq κ] (kd : Kd κ) {NT : List NTab} {f fX fI C CT fT fCS B CB fB' cM pM : Addr} {fd fdX fdT fdI fdCS fdB : FuncData} (F : FunC K "made" "made" s_made f fd cM) (T : TxtM K mg base NT C fCS B CB fB' fX cM pM) (TE : TxtE K mg B CT fT)
    (FX : Fun K "explored" "explored" s_explored fX fdX) (bX : Binds K fdX P_explored []) (FT : Fun K "__init__" "TooMany.__init__" s_TooMany___init__ fT fdT) (bT : Binds K fdT P_TooMany___init__ [])
    (MCode : Mk K C fI) (FI : Fun K "__init__" "Code.__init__" s_Code___init__ fI fdI) (bCode : Binds K fdI P_Code___init__ []) (FCS : Fun K "check_states" "check_states" s_check_states fCS fdCS) (bcheck_states : Binds K fdCS P_check_states [])
    (FB' : Fun K "__init__" "BadCode.__init__" s_BadCode___init__ fB' fdB) (bB' : Binds K fdB P_BadCode___init__ []) : FnOk P w K mg base (L2.CX P w) 10 f fd P_made (spMade P w K mg base NT C CT kd) := by
  have GX : FnOk P w K mg base (L2.CX P w) 9 fX fdX P_explored (spExpl P w K mg base CT kd) := ok_expl kd FX TE FT bT
  have GCode : FnOk P w K mg base (L2.CX P w) 4 fI fdI P_Code___init__ (spInit K C CB) := ok_init FI T.toTxtK FCS bcheck_states FB' bB'
  obtain ⟨tm, hmost⟩ := T.most
  refine F.okX sc_made (fun vs H Q E h => ?_) (fun A outer s H vs Q E hr h => ?_)
  · obtain ⟨z, v0, f, g, s0, st, bt, en, Dm, S, S', rfl, _⟩ := h
    rfl
  · obtain ⟨z, v0, fs, fe, s0, st, bt, en, Dm, S, S', rfl, h0, hD0, hD, hS, hS', hst, hst', FS, FE, hz, hT, kq, ke⟩ := h
    have hu := hu_of hr
    have passL : Passes (L2.CX P w) (cxOf (L2.CX P w) P w K mg base N_made "made" (defScope s_made) f (.ref cM) A outer s H E) E := passes_call (takes_of rfl rfl rfl rfl) (fun _ _ _ _ h => h)
    refine ⟨_, (pss_cons (ps_ndefMS (i := 4) (st := n_made_goal) rfl T.tbM rfl T.tmM rfl T.tuM (ndef_free nd_made_goal) rfl rfl rfl sc_made.nd rfl (Or.inl rfl) (Or.inr rfl))
      (pss_cons (ps_asg (pe_callC cxok GX (hr.mono (by decide)) (fun _ => rfl) (by rfl) T.mexplored T.kexplored bX .nil passL (pa_cons (pv 0) (pa_cons (pv 1) (pa_cons (pv 4) (pa_cons (pe_glob (v := .int 40) (by rfl) hmost ⟨_, rfl⟩) pa_nil))))) (pg_tup (by rfl) (pgs_cons (pg_name (i := 5) sc_made.nd rfl (Or.inl rfl)) (pgs_cons (pg_name (i := 6) sc_made.nd rfl (Or.inl rfl)) pgs_nil))))
      (pss_cons (ps_set (i := 7) sc_made.nd rfl (Or.inl rfl) (pe_lst pa_nil))
      (pss_cons (ps_for (passes_of rfl) rfl (pi_zip (by rfl) T.zip (pa_cons (pv 5) (pa_cons (pv 6) pa_nil))) (pg_tup (by rfl) (pgs_cons (pg_name (i := 8) sc_made.nd rfl (Or.inr rfl)) (pgs_cons (pg_name (i := 9) sc_made.nd rfl (Or.inl rfl)) pgs_nil))) (pss_one (ps_expr (pe_bm PySem.F.plainAttrs_list PySem.F.slot_list_append PySem.F.type_list_append mt_append (pv 7) (pa_cons (pe_lc (own := [("value", 10), ("number", 11)]) (g := gTup K 2 (gCons (gName 10) (gCons (gName 11) gNil))) (by rfl) sc_made.nd (pi_zz (by rfl) T.zip (pa_cons (pv 0) (pa_cons (pv 9) pa_nil))) (blkOk_by (own := [("value", 10), ("number", 11)]) (N := N_made) (sc := defScope s_made) (by decide +kernel)) (fun _ _ _ _ _ => (pg_tup (by rfl) (pgs_cons (pg_name (i := 10) sc_made.nd rfl (Or.inl rfl)) (pgs_cons (pg_name (i := 11) sc_made.nd rfl (Or.inl rfl)) pgs_nil)))) (fun _ _ _ _ _ => pts_nil) (fun _ _ _ _ _ => (pe_tup (pa_cons (pv 11) (pa_cons (pe_ix (ix_tupK (K := K) rfl) (pcv 2 FS (hr.mono (by decide)) pass0 (pa_cons (pv 8) (pa_cons (pv 10) pa_nil))) pe_int (fun _ _ => rfl)) pa_nil))))) pa_nil)))))
      (pss_one (ps_ret (pe_make MCode GCode (hr.mono (by decide)) (by rfl) T.mgCode bCode .nil passL (pa_cons (pv 0) (pa_cons (pv 7) (pa_cons (pe_lc (own := [("memory", 8)]) (g := gName 8) (by rfl) sc_made.nd (pi_list (pv 5)) (blkOk_by (own := [("memory", 8)]) (N := N_made) (sc := defScope s_made) (by decide +kernel)) (fun _ _ _ _ _ => pg_name (i := 8) sc_made.nd rfl (Or.inl rfl)) (fun _ _ _ _ _ => pts_nil) (fun _ _ _ _ _ => (pcv 3 FE (hr.mono (by decide)) pass0 (pa_cons (pv 8) pa_nil)))) pa_nil)))))))))), ?_⟩
    refine ⟨hT, fun fg c' H1 eN back T1 nf hfg hc => ?_⟩
    have st1 : SameT NT H H1 := ⟨eN, back, T1⟩
    refine ⟨_, rfl, _, rfl, _, rfl, fun cs hcap hcn => ?_⟩
    have hcap' := cap_of (scope := C8.fnScope n_made_goal) (fr := R_made_goal) (js := [2]) hcap (cells_free nc_made_goal) (ndef_fr nd_made_goal) rfl
    have FG := fv_of_nok cxok0 (nok_goal (fg := fg) (c' := c') (cl := _) (q := Q_made ++ "goal") FS hst) hcap'
    have FG2 := (FG.imp (S' := fun H => HeldF fg (NF.of n_made_goal "goal" (Q_made ++ "goal") (cloFrom (cxOf (L2.CX P w) P w K mg base N_made "made" (defScope s_made) f (.ref cM) A outer s H E).env.cells (C8.fnScope n_made_goal).names []) c') cs H ∧ S (hid cs H)) (sp' := spStep kd st Dm z) (fun H h => h.1) (fun vs H Q E h ⟨v, k, c, ev, hat, hDk, hcz, kk⟩ =>
      ⟨rfl, h.2, v, k, c, ev, kd_hid h.1.cells hat, hDk, hcz, fun v' H' s1 at' hn => kk v' (shw cs H') (same_up h.1.cells s1) (kd_shw hn at')⟩)).mono (by decide : 7 ≤ 8)
    refine ⟨z, v0, fg, 40, s0, st, Dm, _, rfl, kd_shw hcn (st1.at_ h0), hD0, hD, ⟨⟨shw_keep hcn hfg, shw_keep hcn hc, held_shw⟩, by rw [hid_shw hcn]; exact st1.stab hst hS⟩, (stab_heldF _ _ _).and (hst.hid cs), FG2, by decide, hz, fun hle t H2 s2 hex => ?_, fun hgt d H2 hr2 => ?_⟩
    · have hh := held_same s2
      obtain ⟨M, R, vs, rs, ht, hM, hvs, hR, hrs⟩ := hex
      have ht := tup_hid hh ht
      have hM := lst_hid hh hM
      have hR := lst_hid hh hR
      have hvs : Forall2 (kd.at_ (hid cs H2)) vs _ := hvs.imp fun x y _ h => kd_hid hh h
      have hrs : Forall2 (fun (r : Addr) (row : List Nat) => hid cs H2 r = some (.lst (row.map fun (n : Nat) => V.int (n : Int)))) rs _ := hrs.imp fun x y _ h => lst_hid hh h
      have st3 : SameT NT H (hid cs H2) := st1.trans (SameT.of (same_hid hcn s2) T1)
      refine ⟨hh, t, _, rfl, SqT.of ht, rfl, ?_⟩
      revert ht hM hR hvs hrs st3
      generalize hid cs H2 = H3
      intro ht hM hR hvs hrs st3
      have hdone := turns_done st (TL.tl z) s0 hle
      have hall := turns_all st (TL.tl z) s0 40
      have kq := kq hle
      have hpos : 0 < (turns st (TL.tl z) s0 40).1.length := Nat.lt_of_lt_of_le (Nat.zero_lt_one) (turns_pre st (TL.tl z) s0 (Nat.zero_le 40)).length_le
      have hdm : ∀ k ∈ (turns st (TL.tl z) s0 40).1, Dm k := turns_dm st (TL.tl z) s0 hD0 hD 40
      revert hvs hrs hdone hall kq hdm hle hpos
      generalize turns st (TL.tl z) s0 40 = gp
      obtain ⟨ks, rows⟩ := gp
      dsimp only
      intro hle hvs hrs hdone hall kq hpos hdm
      have lv := hvs.1
      have lr := hrs.1
      refine ⟨_, _, rfl, _, _, rfl, rfl, by show 0 ≤ sizeLine; decide, fun Rw hRw => ?_⟩
      have sM : Same H3 (L2.upd H3 Rw (.lst [])) := same_new hRw
      refine ⟨_, rfl, _, rfl, M, R, vs, rs.map V.ref, rfl, SqL.of (sM _ _ hM), SqL.of (sM _ _ hR), for_it (walk_zip (n := ks.length) (by rw [List.length_map]; omega)) (fun i σ H4 => ∃ (us : List V) (v8 v9 v10 v11 : Option V), σ = [some (.str z), some v0, some (.ref fs), some (.ref fe), some (.ref fg), some (.ref M), some (.ref R), some (.ref Rw), v8, v9, v10, v11] ∧
        H4 Rw = some (.lst us) ∧ DpAll K (L2.del H4 Rw) us (((rowsMade bt (TL.tl z) ks rows).take i).map rowD) ∧ Same H3 H4)
        ⟨[], none, none, none, none, rfl, upd_same, .nil, sM⟩ (fun i σ H4 _ ⟨_, _, _, _, _, _, _, _, s4⟩ => ⟨SqL.of (s4 _ _ hM), SqL.of (s4 _ _ hR)⟩) ?_ ?_⟩
      · rintro i x σ H4 H5 hi ⟨us, v8, v9, v10, v11, rfl, hRw4, hd4, s4⟩ ⟨T9, a, b, rfl, hT9, rfl, ha, hb⟩
        have hi2 : i < rows.length := by omega
        have hk : ks[i]? = some ks[i] := List.getElem?_eq_getElem hi
        have hrw : rows[i]? = some rows[i] := List.getElem?_eq_getElem hi2
        obtain ⟨r, hr1, hr2⟩ := hrs.get hrw
        have eb : b = .ref r := by
          have hb : (rs.map V.ref)[i]? = some b := hb
          rw [List.getElem?_map, hr1] at hb
          exact (Option.some.inj hb).symm
        subst eb
        have hat : kd.at_ H3 a ks[i] := hvs.2 i a _ ha hk
        have s5 : Same H3 (L2.upd H4 T9 (.tup [a, .ref r])) := s4.trans (same_new hT9)
        have s45 : Same H4 (L2.upd H4 T9 (.tup [a, .ref r])) := same_new hT9
        refine ⟨T9, _, rfl, SqT.of upd_same, rfl, _, _, rfl, _, _, rfl, rfl, ?_⟩
        revert s5 s45
        generalize L2.upd H4 T9 (.tup [a, .ref r]) = H5
        intro s5 s45
        have hr5 := s5 _ _ hr2
        have hRw5 := s45 _ _ hRw4
        have hD5 := hD0
        have hrl := hall _ (List.getElem_mem hi2)
        have hat5 : kd.at_ H5 a ks[i] := kd.keep hat fun b xs e => s5 _ _ e
        have hS5 : S H5 := hst.same s5 (st3.stab hst hS)
        have erow : (rowsMade bt (TL.tl z) ks rows)[i]? = some (List.zipWith (fun c (n : Nat) => ((n : Int), bt ks[i] c)) (TL.tl z) rows[i]) := by
          unfold rowsMade
          rw [List.getElem?_zipWith, hk, hrw]
        have hrm : i < (rowsMade bt (TL.tl z) ks rows).length := (List.getElem?_eq_some_iff.mp erow).1
        refine ⟨_, rfl, Or.inl ⟨rfl, us, SqL.of hRw5⟩, _, rfl, _, rfl, .s z, .l r, _, _, rfl, rfl, SqL.of hr5, fun D hD => lc_it (walk_zz rfl) (fun j H6 => ∃ ts : List V, H6 D = some (.lst ts) ∧ DpAll K (L2.del (L2.del H6 Rw) D) ts (((List.zipWith (fun c (n : Nat) => ((n : Int), bt ks[i] c)) (TL.tl z) rows[i]).take j).map tupD) ∧ Same H5 H6)
          ⟨[], upd_same, .nil, same_new hD⟩ (fun j H6 _ ⟨_, _, _, s6⟩ => ⟨rfl, SqL.of (s6 _ _ hr5)⟩) ?_ ?_⟩
        · rintro j y H6 H7 hj ⟨ts, hD6, hd6, s6⟩ ⟨T2, a2, b2, rfl, hT2, rfl, ha2, hb2⟩
          rw [List.length_map, List.length_map, hrl.1, Nat.min_self] at hj
          have hc : (TL.tl z)[j]? = some (TL.tl z)[j] := List.getElem?_eq_getElem hj
          have hn : rows[i][j]? = some rows[i][j] := List.getElem?_eq_getElem (by rw [hrl.1]; exact hj)
          rw [List.getElem?_map, hc] at ha2
          rw [List.getElem?_map, hn] at hb2
          cases ha2; cases hb2
          have s67 : Same H5 (L2.upd H6 T2 (.tup [.str (sg (TL.tl z)[j]), .int (rows[i][j] : Int)])) := s6.trans (same_new hT2)
          have s66 : Same H6 (L2.upd H6 T2 (.tup [.str (sg (TL.tl z)[j]), .int (rows[i][j] : Int)])) := same_new hT2
          refine ⟨T2, _, rfl, SqT.of upd_same, rfl, _, _, rfl, _, _, rfl, rfl, rfl, ?_⟩
          revert s67 s66
          generalize L2.upd H6 T2 (.tup [.str (sg (TL.tl z)[j]), .int (rows[i][j] : Int)]) = H7
          intro s67 s66
          refine lcYes ?_
          have hS7 : S H7 := hst.same s67 hS5
          refine ⟨_, rfl, rfl, hS7, _, rfl, _, rfl, hS7, a, ks[i], (TL.tl z)[j], rfl, kd.keep hat5 fun b xs e => s67 _ _ e, hdm _ (List.getElem_mem hi), List.getElem_mem hj, fun t2 v' H8 s8 ht2 at' => ⟨t2, _, 1, _, rfl, rfl, SqT.of ht2, rfl, by show 2 ≤ sizeLine; decide, fun q hq => ?_⟩⟩
          have s68 : Same H6 H8 := s66.trans s8
          have hD8 := s68 _ _ hD6
          have hRw8 := s8 _ _ (s67 _ _ hRw5)
          have nqD : q ≠ D := (ne_of_none hD8 hq).symm
          have nqR : q ≠ Rw := (ne_of_none hRw8 hq).symm
          refine ⟨ts, by rw [upd_ne nqD.symm]; exact hD8, ?_, ts ++ [.ref q], upd_same, ?_, ((s67.trans s8).trans (same_new hq)).put hD⟩
          · rw [hd6.length, List.length_map, List.length_take]; exact small1000 (by have := TL.len_tl z; omega)
          · have ezz : (List.zipWith (fun c (n : Nat) => ((n : Int), bt ks[i] c)) (TL.tl z) rows[i])[j]? = some ((rows[i][j] : Int), bt ks[i] (TL.tl z)[j]) := by
              rw [List.getElem?_zipWith, hc, hn]
            rw [List.take_add_one, ezz, List.map_append]
            refine (hd6.mv fun b o e _ => ?_).snoc (.tup (SqT.of ?_) (.cons (.int _) (.cons (.int _) .nil)))
            · obtain ⟨h1, h2⟩ := del_some e
              obtain ⟨h3, h4⟩ := del_some h2
              have h5 := s68 _ _ h4
              rw [del_ne h1, del_ne h3, upd_ne h1, upd_ne (ne_of_none h5 hq)]
              exact h5
            · rw [del_ne nqD, del_ne nqR, upd_ne nqD, upd_same]
        · rintro H6 ⟨ts, hD6, hd6, s6⟩
          rw [List.length_map, List.length_map, hrl.1, Nat.min_self, List.take_of_length_le (by rw [List.length_zipWith, hrl.1]; omega)] at hd6
          have hRw6 := s6 _ _ hRw5
          have nDR : D ≠ Rw := (ne_of_none hRw5 hD).symm
          have hlu : us.length ≤ 40 := by rw [hd4.length, List.length_map, List.length_take]; omega
          refine ⟨Rw, us, .ref D, rfl, rfl, hRw6, small1000 (by omega), us ++ [.ref D], _, _, _, _, rfl, upd_same, ?_, ((s4.trans s45).trans s6).put hRw⟩
          rw [del_upd, List.take_add_one, erow, List.map_append]
          refine (hd4.mv fun b o e _ => ?_).snoc (.lst (SqL.of (by rw [del_ne nDR]; exact hD6)) (hd6.mv (Kl.undel _ _)))
          obtain ⟨h1, h2⟩ := del_some e
          rw [del_ne h1]
          exact s6 _ _ (s45 _ _ h2)
      · rintro σ H4 ⟨us, v8, v9, v10, v11, rfl, hRw4, hd4, s4⟩
        have hM4 := s4 _ _ hM
        have hS4 : S' H4 := hst'.same s4 (st3.stab hst' hS')
        refine ⟨_, rfl, _, rfl, _, rfl, M, rfl, ⟨_, SqL.of hM4⟩, fun D hD => lc_list (K := K) (a := M) (xs := vs) (fun j H5 => H5 D = some (.lst (((ks.map en).take j).map V.int)) ∧ Same H4 H5) ⟨upd_same, same_new hD⟩ (fun j H5 _ ⟨_, s5⟩ => SqL.of (s5 _ _ hM4)) ?_ ?_⟩
        · rintro j x H5 hx ⟨hD5, s5⟩
          have hj : j < ks.length := by rw [← lv]; exact (List.getElem?_eq_some_iff.mp hx).1
          have hkj : ks[j]? = some ks[j] := List.getElem?_eq_getElem hj
          have hat : kd.at_ H5 x ks[j] := kd.keep (hvs.2 j x _ hx hkj) fun b xs e => s5 _ _ (s4 _ _ e)
          have hS5 := hst'.same s5 hS4
          refine ⟨rfl, ?_⟩
          refine lcYes ?_
          refine ⟨rfl, hS5, _, rfl, hS5, x, ks[j], rfl, hat, hdm _ (List.getElem_mem hj), fun H6 s6 => ⟨_, s6 _ _ hD5, ?_, ?_, (s5.trans s6).put hD⟩⟩
          · rw [List.length_map, List.length_take]; exact small1000 (by omega)
          · have e1 : (ks.map en)[j]? = some (en ks[j]) := by rw [List.getElem?_map, hkj]; rfl
            rw [upd_same, List.take_add_one, e1, List.map_append]
            rfl
        · rintro H5 ⟨hD5, s5⟩
          rw [List.take_of_length_le (by rw [List.length_map]; omega)] at hD5
          refine fun x dx hx hdx ne => ?_
          have hx' : (L2.upd H5 dx (.own x)) x = none := by rw [upd_ne ne.symm]; exact hx
          have s6 : Same H5 (L2.upd (L2.upd H5 dx (.own x)) x (.ins C dx [])) := (same_new hdx).trans (same_new hx')
          have hrl : (rowsMade bt (TL.tl z) ks rows).length = ks.length := by unfold rowsMade; rw [List.length_zipWith]; omega
          rw [List.take_of_length_le (by omega)] at hd4
          have hok : AllOk z.length (rowsMade bt (TL.tl z) ks rows) (ks.map en) := made_ok (by rw [TL.len_tl]) hdone hpos hall
          refine ⟨x, dx, z, _, _, rowsMade bt (TL.tl z) ks rows, ks.map en, rfl, upd_same, Or.inl (Dp.lst (SqL.of (s6 _ _ (s5 _ _ hRw4))) (hd4.mv (((Kl.undel _ _).trans (Kl.same s5)).trans (Kl.same s6)))), Or.inl (Dp.lst (SqL.of (s6 _ _ hD5)) (dpAll_ints _ _ _)), hz, by omega, by rw [List.length_map]; omega, fun r hr => ?_, fun _ H7 hC7 k7 => ⟨rfl, ?_⟩, fun i hb => absurd hb (ok_not_bad hok)⟩
          · obtain ⟨i, hi, e⟩ := List.getElem_of_mem hr
            have := hok.1 i hi
            unfold badRow at this
            rw [e] at this
            omega
          · refine kq x H7 (st3.trans (SameT.of (fun b u e => k7 b u (s6 _ _ (s5 _ _ (s4 _ _ e))) (ne_of_none (s5 _ _ (s4 _ _ e)) hx)) st3.tab)) hC7
    · exact ⟨held_same hr2.2.2, ke hgt d _ ⟨st1.back d ((same_shw hcn).free hr2.1), hid_keep (held_same hr2.2.2) hr2.2.1 (fun _ z => nomatch z), st1.trans (SameT.of (same_hid hcn hr2.2.2) T1)⟩⟩
end
end Vf
set_option Elab.async false
set_option linter.all false
set_option maxRecDepth 100000
set_option maxHeartbeats 4000000
/-! what a made code pays -/
namespace Vf
open PySem L2 PyProof.Rows
section
variable {κ : Type} [DecidableEq κ]
theorem num_pre {l l' : List κ} {k : κ} (h : k ∈ l) (p : l <+: l') : num l' k = num l k := by
  obtain ⟨t, rfl⟩ := p
  unfold num
  rw [List.idxOf_append, if_pos h]
theorem num_get {l : List κ} {k : κ} (h : k ∈ l) : l[num l k]? = some k := by
  have hl := num_lt h
  rw [List.getElem?_eq_getElem hl]
  congr 1
  exact List.getElem_idxOf hl
theorem num_of {l : List κ} {k : κ} {i : Nat} (hn : l.Nodup) (h : l[i]? = some k) : num l k = i := by
  obtain ⟨hi, e⟩ := List.getElem?_eq_some_iff.mp h
  have hm : k ∈ l := List.mem_of_getElem? h
  have hl := num_lt hm
  have e2 : l[num l k] = k := List.getElem_idxOf hl
  exact (List.getElem_inj hn).mp (e2.trans e.symm)
theorem rowOf_eq (st : κ → Nat → κ) (m : κ) : ∀ (L : List Nat) (p : List κ × List Nat), (rowOf st m L p).2 = p.2 ++ L.map (fun c => num (rowOf st m L p).1 (st m c)) ∧ ∀ c ∈ L, st m c ∈ (rowOf st m L p).1
  | [], p => ⟨by simp [rowOf], fun c h => nomatch h⟩
  | c :: cs, (ks, row) => by
    obtain ⟨h1, h2⟩ := rowOf_eq st m cs (add1 ks (st m c), row ++ [num (add1 ks (st m c)) (st m c)])
    have hp := rowOf_pre st m cs (add1 ks (st m c), row ++ [num (add1 ks (st m c)) (st m c)])
    have hm : st m c ∈ add1 ks (st m c) := add1_mem
    refine ⟨?_, fun d hd => ?_⟩
    · show (rowOf st m cs (add1 ks (st m c), row ++ [num (add1 ks (st m c)) (st m c)])).2 = row ++ (c :: cs).map (fun c' => num (rowOf st m cs (add1 ks (st m c), row ++ [num (add1 ks (st m c)) (st m c)])).1 (st m c'))
      rw [h1, List.map_cons, num_pre hm hp]
      simp
    · rcases List.mem_cons.mp hd with e | e
      · rw [e]; exact hp.subset hm
      · exact h2 d e
theorem turns_eq (st : κ → Nat → κ) (L : List Nat) (s0 : κ) : ∀ (n i : Nat) (row : List Nat), (turns st L s0 n).2[i]? = some row → ∃ m, (turns st L s0 n).1[i]? = some m ∧ row = L.map (fun c => num (turns st L s0 n).1 (st m c)) ∧ ∀ c ∈ L, st m c ∈ (turns st L s0 n).1
  | 0, i, row, h => by simp [turns] at h
  | n + 1, i, row, h => by
    have ih := turns_eq st L s0 n
    have hrl := turns_rows_le st L s0 n
    revert h
    show (turn st L (turns st L s0 n)).2[i]? = some row → ∃ m, (turn st L (turns st L s0 n)).1[i]? = some m ∧ row = L.map (fun c => num (turn st L (turns st L s0 n)).1 (st m c)) ∧ ∀ c ∈ L, st m c ∈ (turn st L (turns st L s0 n)).1
    have hp := turn_pre st L (turns st L s0 n)
    revert hp
    unfold turn
    split
    · intro _ h
      exact ih i row h
    · rename_i mm hm
      dsimp only
      intro hp h
      by_cases hi : i < (turns st L s0 n).2.length
      · rw [List.getElem?_append_left hi] at h
        obtain ⟨m, h1, h2, h3⟩ := ih i row h
        have h4 : i < (turns st L s0 n).1.length := (List.getElem?_eq_some_iff.mp h1).1
        refine ⟨m, ?_, ?_, fun c hc => hp.subset (h3 c hc)⟩
        · obtain ⟨t, ht⟩ := hp
          rw [← ht, List.getElem?_append_left h4]
          exact h1
        · rw [h2]
          refine List.map_congr_left fun c hc => (num_pre (h3 c hc) hp).symm
      · have hl := (List.getElem?_eq_some_iff.mp h).1
        rw [List.length_append, List.length_singleton] at hl
        have ei : i = (turns st L s0 n).2.length := by omega
        subst ei
        rw [List.getElem?_append_right (Nat.le_refl _), Nat.sub_self] at h
        have h : (rowOf st mm L ((turns st L s0 n).1, [])).2 = row := Option.some.inj h
        obtain ⟨h1, h2⟩ := rowOf_eq st mm L ((turns st L s0 n).1, [])
        refine ⟨mm, ?_, by rw [← h, h1]; rfl, h2⟩
        have h4 := (List.getElem?_eq_some_iff.mp hm).1
        obtain ⟨t, ht⟩ := hp
        rw [← ht, List.getElem?_append_left h4]
        exact hm
/-- the bits along a column -/
def pay (st : κ → Nat → κ) (bt : κ → Nat → Int) : κ → List Nat → Int
  | _, [] => 0
  | k, c :: y => bt k c + pay st bt (st k c) y
/-- all keys have rows that tell where the letters lead -/
structure Full (st : κ → Nat → κ) (L : List Nat) (s0 : κ) (ks : List κ) (rows : List (List Nat)) : Prop where
  nd : ks.Nodup
  len : rows.length = ks.length
  s0_ : ks[0]? = some s0
  row : ∀ (i : Nat) (row : List Nat), rows[i]? = some row → ∃ m, ks[i]? = some m ∧ row = L.map (fun c => num ks (st m c)) ∧ ∀ c ∈ L, st m c ∈ ks
theorem full_of {st : κ → Nat → κ} {L : List Nat} {s0 : κ} {n : Nat} (h : (turns st L s0 n).1.length ≤ n) : Full st L s0 (turns st L s0 n).1 (turns st L s0 n).2 := by
  refine ⟨turns_nodup st L s0 n, turns_done st L s0 h, ?_, turns_eq st L s0 n⟩
  obtain ⟨t, ht⟩ := turns_pre st L s0 (Nat.zero_le n)
  rw [← ht]
  rfl
theorem Full.goal {st : κ → Nat → κ} {L : List Nat} {s0 : κ} {ks : List κ} {rows : List (List Nat)} (F : Full st L s0 ks rows) {k : κ} (hk : k ∈ ks) {c : Nat} (hc : c ∈ L) : st k c ∈ ks := by
  have h1 := num_get hk
  have h2 := num_lt hk
  obtain ⟨m, h3, _, h5⟩ := F.row (num ks k) _ (List.getElem?_eq_getElem (by rw [F.len]; exact h2))
  rw [h1] at h3
  rw [Option.some.inj h3]
  exact h5 c hc
theorem made_step {st : κ → Nat → κ} {bt : κ → Nat → Int} {L : List Nat} {s0 : κ} {ks : List κ} {rows : List (List Nat)} (F : Full st L s0 ks rows) {k : κ} (hk : k ∈ ks) {c : Nat} (hc : c ∈ L) (t : Int) :
    stepR (List.zipWith (fun k row => List.zipWith (fun c (n : Nat) => ((n : Int), bt k c)) L row) ks rows) L ((num ks k : Int), t) c = ((num ks (st k c) : Int), t + bt k c) := by
  have h1 := num_get hk
  have h2 := num_lt hk
  have hr : rows[num ks k]? = some (rows[num ks k]'(by rw [F.len]; exact h2)) := List.getElem?_eq_getElem _
  obtain ⟨m, h3, h4, _⟩ := F.row (num ks k) _ hr
  rw [h1] at h3
  obtain rfl : k = m := Option.some.inj h3
  have hci : L[L.idxOf c]? = some c := by
    have hl := List.idxOf_lt_length_iff.mpr hc
    rw [List.getElem?_eq_getElem hl, List.getElem_idxOf hl]
  unfold stepR
  have e1 : (((num ks k : Nat) : Int)).toNat = num ks k := Int.toNat_natCast _
  have e2 : (List.zipWith (fun k row => List.zipWith (fun c (n : Nat) => ((n : Int), bt k c)) L row) ks rows)[num ks k]? = some (List.zipWith (fun c (n : Nat) => ((n : Int), bt k c)) L (rows[num ks k]'(by rw [F.len]; exact h2))) := by
    rw [List.getElem?_zipWith, h1, hr]
  have e3 : (List.zipWith (fun c (n : Nat) => ((n : Int), bt k c)) L (rows[num ks k]'(by rw [F.len]; exact h2)))[L.idxOf c]? = some ((num ks (st k c) : Int), bt k c) := by
    rw [List.getElem?_zipWith, hci, h4, List.getElem?_map, hci]
    rfl
  simp only [e1, List.getD_eq_getElem?_getD, e2, Option.getD_some, e3]
theorem made_walk {st : κ → Nat → κ} {bt : κ → Nat → Int} {L : List Nat} {s0 : κ} {ks : List κ} {rows : List (List Nat)} (F : Full st L s0 ks rows) : ∀ (y : List Nat) (k : κ) (t : Int), k ∈ ks → (∀ c ∈ y, c ∈ L) →
    y.foldl (stepR (List.zipWith (fun k row => List.zipWith (fun c (n : Nat) => ((n : Int), bt k c)) L row) ks rows) L) ((num ks k : Int), t) = ((num ks (y.foldl st k) : Int), t + pay st bt k y) ∧ y.foldl st k ∈ ks
  | [], k, t, hk, _ => ⟨by simp [pay], hk⟩
  | c :: y, k, t, hk, hy => by
    have hc := hy c List.mem_cons_self
    obtain ⟨h1, h2⟩ := made_walk F y (st k c) (t + bt k c) (F.goal hk hc) fun d hd => hy d (List.mem_cons_of_mem _ hd)
    refine ⟨?_, h2⟩
    rw [List.foldl_cons, made_step F hk hc, h1, List.foldl_cons]
    show _ = (_, t + (bt k c + pay st bt (st k c) y))
    rw [Int.add_assoc]
theorem made_len {st : κ → Nat → κ} {bt : κ → Nat → Int} {en : κ → Int} {L : List Nat} {s0 : κ} {ks : List κ} {rows : List (List Nat)} (F : Full st L s0 ks rows) {y : List Nat} (hy : ∀ c ∈ y, c ∈ L) :
    lenR (List.zipWith (fun k row => List.zipWith (fun c (n : Nat) => ((n : Int), bt k c)) L row) ks rows) (ks.map en) L y = pay st bt s0 y + en (y.foldl st s0) := by
  have hs : s0 ∈ ks := List.mem_of_getElem? F.s0_
  have e0 : num ks s0 = 0 := num_of F.nd F.s0_
  obtain ⟨h1, h2⟩ := made_walk (bt := bt) F y s0 0 hs hy
  rw [e0] at h1
  unfold lenR walkR
  have h1' : y.foldl (stepR (List.zipWith (fun k row => List.zipWith (fun c (n : Nat) => ((n : Int), bt k c)) L row) ks rows) L) (0, 0) = _ := h1
  rw [h1']
  have e1 : (((num ks (y.foldl st s0) : Nat) : Int)).toNat = num ks (y.foldl st s0) := Int.toNat_natCast _
  have e2 : (ks.map en)[num ks (y.foldl st s0)]? = some (en (y.foldl st s0)) := by rw [List.getElem?_map, num_get h2]; rfl
  dsimp only
  rw [e1, List.getD_eq_getElem?_getD, e2, Option.getD_some, Int.zero_add]
theorem made_goodS {st : κ → Nat → κ} {bt : κ → Nat → Int} {L : List Nat} {s0 : κ} {ks : List κ} {rows : List (List Nat)} (F : Full st L s0 ks rows) : GoodS L.length (List.zipWith (fun k row => List.zipWith (fun c (n : Nat) => ((n : Int), bt k c)) L row) ks rows) := by
  refine ⟨fun r hr => ?_⟩
  obtain ⟨i, hi, e⟩ := List.getElem_of_mem hr
  rw [List.length_zipWith] at hi
  have hi1 : i < ks.length := by omega
  have hi2 : i < rows.length := by omega
  rw [List.getElem_zipWith] at e
  obtain ⟨m, h3, h4, h5⟩ := F.row i _ (List.getElem?_eq_getElem hi2)
  have hl : rows[i].length = L.length := by rw [h4, List.length_map]
  subst e
  refine ⟨by rw [List.length_zipWith]; omega, fun gb hg => ?_⟩
  obtain ⟨j, hj, q⟩ := List.getElem_of_mem hg
  rw [List.getElem_zipWith] at q
  rw [List.length_zipWith] at hj
  have hx : rows[i][j]'(by omega) ∈ rows[i] := List.getElem_mem _
  have gen : ∀ row : List Nat, row = L.map (fun c => num ks (st m c)) → ∀ x ∈ row, x < ks.length := fun row e x hx => by
    subst e
    obtain ⟨c, hc, ec⟩ := List.mem_map.mp hx
    rw [← ec]
    exact num_lt (h5 c hc)
  have hx2 := gen _ h4 _ hx
  have := F.len
  rw [← q, List.length_zipWith]
  dsimp only
  omega
end
end Vf
set_option Elab.async false
set_option linter.all false
set_option maxRecDepth 100000
set_option maxHeartbeats 4000000
/-! a function in a cell of another one: each with its own cells alone -/
namespace Vf
open PySem L2 PyProof.Rows NdefX LamX
/-- those of the cells that a closure names -/
def cut (cl : List (Str × Addr)) (cs : Cs) : Cs := cs.filter fun p => cl.any fun q => q.2 == p.1 && (cl.lookup q.1 == some p.1)
def inCl (cl : List (Str × Addr)) (c : Addr) : Bool := cl.any fun q => q.2 == c && (cl.lookup q.1 == some c)
theorem inCl_of {cl : List (Str × Addr)} {y : Str} {c : Addr} (h : cl.lookup y = some c) : inCl cl c = true := by
  have hm : (y, c) ∈ cl := by
    induction cl with
    | nil => cases h
    | cons a r ih =>
      obtain ⟨n, d⟩ := a
      rw [List.lookup_cons] at h
      cases q : y == n with
      | true =>
        rw [q] at h
        cases h
        rw [beq_iff_eq.mp q]
        exact List.mem_cons_self
      | false =>
        rw [q] at h
        exact List.mem_cons_of_mem _ (ih h)
  unfold inCl
  rw [List.any_eq_true]
  exact ⟨(y, c), hm, by simp [h]⟩
theorem inCl_some {cl : List (Str × Addr)} {c : Addr} (h : inCl cl c = true) : ∃ y, cl.lookup y = some c := by
  unfold inCl at h
  rw [List.any_eq_true] at h
  obtain ⟨q, _, e⟩ := h
  rw [Bool.and_eq_true] at e
  exact ⟨q.1, beq_iff_eq.mp e.2⟩
theorem lookup_filter {α : Type} (p : Addr → Bool) (c : Addr) : ∀ cs : List (Addr × α), (cs.filter fun x => p x.1).lookup c = if p c = true then cs.lookup c else none
  | [] => by simp
  | (a, o) :: r => by
    have ih := lookup_filter p c r
    by_cases hp : p a = true
    · rw [List.filter_cons_of_pos (by simpa using hp), List.lookup_cons, List.lookup_cons]
      cases q : c == a with
      | true =>
        have : c = a := beq_iff_eq.mp q
        subst this
        dsimp only
        rw [if_pos hp]
      | false =>
        dsimp only
        exact ih
    · rw [List.filter_cons_of_neg (by simpa using hp), List.lookup_cons, ih]
      cases q : c == a with
      | true =>
        have : c = a := beq_iff_eq.mp q
        subst this
        rw [if_neg hp, if_neg hp]
      | false => rfl
theorem cut_lookup (cl : List (Str × Addr)) (cs : Cs) (c : Addr) : (cut cl cs).lookup c = if inCl cl c = true then cs.lookup c else none := lookup_filter (inCl cl) c cs
theorem cut_some {cl : List (Str × Addr)} {cs : Cs} {c : Addr} {o : Obj} (h : (cut cl cs).lookup c = some o) : cs.lookup c = some o ∧ ∃ y, cl.lookup y = some c := by
  rw [cut_lookup] at h
  split at h
  · rename_i q
    exact ⟨h, inCl_some q⟩
  · cases h
theorem cut_of {cl : List (Str × Addr)} {cs : Cs} {c : Addr} {o : Obj} {y : Str} (h : cl.lookup y = some c) (e : cs.lookup c = some o) : (cut cl cs).lookup c = some o := by
  rw [cut_lookup, if_pos (inCl_of h)]
  exact e
theorem Cap.cut {cl : List (Str × Addr)} {fr : List Str} {ws : List (Option V)} {cs : Cs} (h : Cap cl fr ws cs) : Cap cl fr ws (Vf.cut cl cs) := by
  refine ⟨h.len, fun c o e => h.cell c o (cut_some e).1, fun y c e => ?_, h.inj, fun i y e => ?_⟩
  · obtain ⟨o, ho⟩ := h.all y c e
    exact ⟨o, cut_of e ho⟩
  · obtain ⟨c, hc, hv⟩ := h.has i y e
    refine ⟨c, hc, fun v ev => ?_⟩
    obtain ⟨u, o, r, ho, hd⟩ := hv v ev
    exact ⟨u, o, r, cut_of hc ho, hd⟩
theorem HeldC.cut {cs : Cs} {H : Hp} (h : HeldC cs H) (cl : List (Str × Addr)) : HeldC (Vf.cut cl cs) H := fun c o e => h c o (cut_some e).1
theorem CellsData.cut {cs : Cs} (h : CellsData cs) (cl : List (Str × Addr)) : CellsData (Vf.cut cl cs) := fun c o e => h c o (cut_some e).1
/-- a cell is no function -/
theorem cellX_fn {c : Addr} {o : Obj} {F : NF} {v : Option Value} (hd : o.data = .cell v) : CellX c o ≠ FnO c F := fun z => by
  unfold CellX FnO at z
  have z2 := HO.ext.inj z
  have e : ({ objs := Array.replicate (c + 1) o } : Heap).get? c = some o := by
    unfold Heap.get?
    have : (Array.replicate (c + 1) o)[c]? = some o := by simp
    rw [this]
    obtain ⟨a, b, d, sl⟩ := o
    have hd : d = .cell v := hd
    subst hd
    rfl
  have h1 := congrFun z2 ({ objs := Array.replicate (c + 1) o } : Heap)
  have h2 : ∃ (od : Option Addr) (sl : Array (Option Value)) (doc pm ctv : Value), ({ objs := Array.replicate (c + 1) o } : Heap).get? c = some (⟨.type "function", od, .func (F.fd doc pm ctv), sl⟩ : Obj) := by
    rw [← h1]; exact e
  obtain ⟨od, sl, doc, pm, ctv, h⟩ := h2
  rw [e] at h
  cases h
  cases hd
theorem heldF_hid {f : Addr} {F : NF} {cs1 cs2 : Cs} {H : Hp} (h : HeldF f F cs1 H) (hc : HeldC cs2 H) (hd : CellsData cs2) (n : ∀ c o, cs1.lookup c = some o → cs2.lookup c = none) : HeldF f F cs1 (hid cs2 H) := by
  refine ⟨?_, ?_, fun c o e => ?_⟩
  · have : cs2.lookup f = none := by
      cases q : cs2.lookup f with
      | none => rfl
      | some o =>
        obtain ⟨v, hv⟩ := hd f o q
        have := hc f o q
        rw [h.fn] at this
        exact absurd (Option.some.inj this).symm (cellX_fn hv)
    rw [hid_out this]; exact h.fn
  · have : cs2.lookup F.c = none := by
      cases q : cs2.lookup F.c with
      | none => rfl
      | some o =>
        obtain ⟨v, hv⟩ := hd F.c o q
        have := hc F.c o q
        rw [h.code] at this
        exact absurd (Option.some.inj this).symm (cellX_code hv)
    rw [hid_out this]; exact h.code
  · rw [hid_out (n c o e)]; exact h.cells c o e
/-- a cell is no lambda -/
theorem cellX_lam {c : Addr} {o : Obj} {F : NF} {e0 : Expr} {v : Option Value} (hd : o.data = .cell v) : CellX c o ≠ FnL c F e0 := fun z => by
  unfold CellX FnL at z
  have z2 := HO.ext.inj z
  have e : ({ objs := Array.replicate (c + 1) o } : Heap).get? c = some o := by
    unfold Heap.get?
    have : (Array.replicate (c + 1) o)[c]? = some o := by simp
    rw [this]
    obtain ⟨a, b, d, sl⟩ := o
    have hd : d = .cell v := hd
    subst hd
    rfl
  have h1 := congrFun z2 ({ objs := Array.replicate (c + 1) o } : Heap)
  have h2 : ∃ (pm ctv : Value), ({ objs := Array.replicate (c + 1) o } : Heap).get? c = some (lamO F e0 pm ctv) := by
    rw [← h1]; exact e
  obtain ⟨pm, ctv, h⟩ := h2
  rw [e] at h
  cases h
  cases hd
theorem heldL_hid {f : Addr} {F : NF} {e0 : Expr} {cs1 cs2 : Cs} {H : Hp} (h : HeldL f F e0 cs1 H) (hc : HeldC cs2 H) (hd : CellsData cs2) (n : ∀ c o, cs1.lookup c = some o → cs2.lookup c = none) : HeldL f F e0 cs1 (hid cs2 H) := by
  refine ⟨?_, ?_, fun c o e => ?_⟩
  · have : cs2.lookup f = none := by
      cases q : cs2.lookup f with
      | none => rfl
      | some o =>
        obtain ⟨v, hv⟩ := hd f o q
        have := hc f o q
        rw [h.fn] at this
        exact absurd (Option.some.inj this).symm (cellX_lam hv)
    rw [hid_out this]; exact h.fn
  · have : cs2.lookup F.c = none := by
      cases q : cs2.lookup F.c with
      | none => rfl
      | some o =>
        obtain ⟨v, hv⟩ := hd F.c o q
        have := hc F.c o q
        rw [h.code] at this
        exact absurd (Option.some.inj this).symm (cellX_code hv)
    rw [hid_out this]; exact h.code
  · rw [hid_out (n c o e)]; exact h.cells c o e
/-- closures with no name in common have no cell in common -/
theorem clo_free {cells : List (Str × Addr)} : ∀ {names : List (Str × NameKind)} {acc : List (Str × Addr)} {y : Str} {c : Addr}, (cloFrom cells names acc).lookup y = some c → (y, NameKind.free) ∈ names ∨ acc.lookup y = some c
  | [], _, _, _, h => .inr h
  | (n, k) :: r, acc, y, c, h => by
    unfold cloFrom at h
    split at h
    · rename_i hk
      rcases clo_free (names := r) h with q | q
      · exact .inl (List.mem_cons_of_mem _ q)
      · rw [List.lookup_cons] at q
        cases e : y == n with
        | true =>
          have e1 : y = n := beq_iff_eq.mp e
          have e2 : k = .free := beq_iff_eq.mp hk
          rw [e1, e2]
          exact .inl List.mem_cons_self
        | false =>
          rw [e] at q
          exact .inr q
    · rcases clo_free (names := r) h with q | q
      · exact .inl (List.mem_cons_of_mem _ q)
      · exact .inr q
theorem cut_apart {X : Cx} {σ : L2.St} {cs : Cs} {s1 s2 : Scope} (C : CapX X σ cs) (h1 : ∀ y ∈ s1.names, y.2 = .free → X.env.scope.names.lookup y.1 = some .cell) (h2 : ∀ y ∈ s2.names, y.2 = .free → X.env.scope.names.lookup y.1 = some .cell)
    (ap : (s1.names.all fun y => !decide (y.2 = .free) || !decide ((y.1, NameKind.free) ∈ s2.names)) = true) : ∀ c o, (cut (cloFrom X.env.cells s1.names []) cs).lookup c = some o → (cut (cloFrom X.env.cells s2.names []) cs).lookup c = none := by
  intro c o e
  cases q : (cut (cloFrom X.env.cells s2.names []) cs).lookup c with
  | none => rfl
  | some o2 =>
    obtain ⟨_, y1, e1⟩ := cut_some e
    obtain ⟨_, y2, e2⟩ := cut_some q
    have f1 : ∀ y ∈ s1.names, y.2 = .free → ∃ a, X.env.cells.lookup y.1 = some a := fun y hy ey => C.ok.has _ (.inl (h1 y hy ey))
    have f2 : ∀ y ∈ s2.names, y.2 = .free → ∃ a, X.env.cells.lookup y.1 = some a := fun y hy ey => C.ok.has _ (.inl (h2 y hy ey))
    have g1 := clo_cm f1 e1
    have g2 := clo_cm f2 e2
    have ey : y1 = y2 := C.ok.inj y1 y2 c g1 g2
    subst ey
    have m1 := (clo_free e1).resolve_right (by simp)
    have m2 := (clo_free e2).resolve_right (by simp)
    have := List.all_eq_true.mp ap _ m1
    simp [m2] at this
end Vf
set_option Elab.async false
set_option linter.all false
set_option maxRecDepth 100000
set_option maxHeartbeats 4000000
namespace Vf
open PySem L2 PyProof.Rows
open NdefX LamX
theorem nodup_le {α : Type} [DecidableEq α] : ∀ {xs ys : List α}, xs.Nodup → (∀ x ∈ xs, x ∈ ys) → xs.length ≤ ys.length
  | [], ys, _, _ => Nat.zero_le _
  | x :: xs, ys, hn, hs => by
    have hx := hs x List.mem_cons_self
    have hn' := List.nodup_cons.mp hn
    have := nodup_le (xs := xs) (ys := ys.erase x) hn'.2 fun y hy => (List.mem_erase_of_ne (fun e => hn'.1 (by rw [← e]; exact hy))).mpr (hs y (List.mem_cons_of_mem _ hy))
    rw [List.length_erase_of_mem hx] at this
    have hp : 0 < ys.length := List.length_pos_of_mem hx
    rw [List.length_cons]
    omega
theorem step2_hid {κ : Type} [DecidableEq κ] {kd : Kd κ} {st : κ → Nat → κ} {bt : κ → Nat → Int} {Dm : κ → Prop} {z : Str} {cs : Cs} {H : Hp} {vs : List V} {Q : VK} {E E' : XK} (hc : HeldC cs H) (h : spStep2 kd st bt Dm z vs H Q E) :
    spStep2 kd st bt Dm z vs (hid cs H) (fun v H2 => (∀ c o, cs.lookup c = some o → H2 c = none) → Q v (shw cs H2)) E' := by
  obtain ⟨v, k, c, ev, hat, hDk, hcz, kk⟩ := h
  exact ⟨v, k, c, ev, kd_hid hc hat, hDk, hcz, fun t v' H' s1 ht at' hn => kk t v' (shw cs H') (same_up hc s1) (shw_keep hn ht) (kd_shw hn at')⟩
/-- the dict has the bits of the letters -/
def Lk (kvs : List (Key × V)) (z : Str) (b : Nat → Int) : Prop := ∀ c ∈ TL.tl z, valV kvs (Sum.inr (sg c)) = some (.int (b c))
def Lk2 (kvs : List (Key × V)) (z : Str) (b : Nat → Nat → Int) : Prop := ∀ a ∈ TL.tl z, ∀ c ∈ TL.tl z, valV kvs (Sum.inr (sg a ++ sg c)) = some (.int (b a c))
/-- made codes: what callers get -/
def Made (K : PySem.W.Frag) (NT : List NTab) (C : Addr) (z : Str) {κ : Type} [DecidableEq κ] (st : κ → Nat → κ) (bt : κ → Nat → Int) (en : κ → Int) (s0 : κ) (H : Hp) (Q : VK) : Prop :=
  ∀ o H', SameT NT H H' → CodeAt K C H' o z (rowsMade bt (TL.tl z) (turns st (TL.tl z) s0 40).1 (turns st (TL.tl z) s0 40).2) ((turns st (TL.tl z) s0 40).1.map en) → (turns st (TL.tl z) s0 40).1.length ≤ 40 → Q (.ref o) H'
theorem CodeAt.hid {K : PySem.W.Frag} {C o : Addr} {cs : Cs} {H : Hp} {z : Str} {rs : List Row} {es : List Int} (c : CodeAt K C H o z rs es) (hc : HeldC cs H) : CodeAt K C (Vf.hid cs H) o z rs es := by
  obtain ⟨dx, R, E, h1, h2, h3⟩ := c
  exact ⟨dx, R, E, hid_keep hc h1 (fun _ z => nomatch z), h2.mv (kl_hid hc), h3.mv (kl_hid hc)⟩
theorem end_hid {κ : Type} [DecidableEq κ] {kd : Kd κ} {en : κ → Int} {Dm : κ → Prop} {cs : Cs} {H : Hp} {vs : List V} {Q : VK} {E E' : XK} (hc : HeldC cs H) (h : spEnd kd en Dm vs H Q E) :
    spEnd kd en Dm vs (hid cs H) (fun v H2 => (∀ c o, cs.lookup c = some o → H2 c = none) → Q v (shw cs H2)) E' := by
  obtain ⟨v, k, ev, hat, hDk, kk⟩ := h
  exact ⟨v, k, ev, kd_hid hc hat, hDk, fun H' s1 hn => kk (shw cs H') (same_up hc s1)⟩
theorem kl_ext {H H' : Hp} (k : ExtN H H') : Kl H H' := fun b o e d => k b o e fun ps z => by rw [z] at d; exact d
theorem stab_code {K : PySem.W.Frag} {C o : Addr} {z : Str} {rs : List Row} {es : List Int} : Stab fun H => CodeAt K C H o z rs es := fun H H' q k => by
  obtain ⟨dx, R, E, h1, h2, h3⟩ := q
  exact ⟨dx, R, E, k _ _ h1 (fun _ z => nomatch z), h2.mv (kl_ext k), h3.mv (kl_ext k)⟩
theorem CodeAt.shw {K : PySem.W.Frag} {C o : Addr} {cs : Cs} {H : Hp} {z : Str} {rs : List Row} {es : List Int} (c : CodeAt K C H o z rs es) (hn : ∀ c o, cs.lookup c = some o → H c = none) : CodeAt K C (Vf.shw cs H) o z rs es := by
  obtain ⟨dx, R, E, h1, h2, h3⟩ := c
  exact ⟨dx, R, E, shw_keep hn h1, h2.mv (Kl.same (same_shw hn)), h3.mv (Kl.same (same_shw hn))⟩
def lineOf : Stmt → Nat
  | .FunctionDef _ _ _ _ _ _ _ _ _ pos => pos.line
  | _ => 0
abbrev s_times : Stmt := top 25
abbrev N_times : List Str := ["code", "factor", "more", "step", "end"]
abbrev P_times : List Str := ["code", "factor", "more"]
theorem sc_times : FnScope N_times P_times (defScope s_times) := ⟨rfl, rfl, rfl, by decide +kernel, rfl, by decide +kernel, by decide +kernel⟩

abbrev n_times_step : Stmt := (defBody s_times).getD 0 (.Pass ⟨0, 0, 0, 0⟩)
abbrev N_times_step : List Str := ["memory", "value", "code", "factor", "goal", "bits"]
abbrev P_times_step : List Str := ["memory", "value"]
abbrev R_times_step : List Str := ["code", "factor"]
theorem ns_times_step : NScope N_times_step P_times_step R_times_step (C8.fnScope n_times_step) := nscope_by (by decide +kernel)
theorem nd_times_step : ndefB (defScope s_times) (C8.fnScope n_times_step) R_times_step = true := by decide +kernel
theorem nc_times_step : cellsB (defScope s_times) (C8.fnScope n_times_step) = true := by decide +kernel

abbrev n_times_end : Stmt := (defBody s_times).getD 1 (.Pass ⟨0, 0, 0, 0⟩)
abbrev N_times_end : List Str := ["memory", "code", "factor", "more"]
abbrev P_times_end : List Str := ["memory"]
abbrev R_times_end : List Str := ["code", "factor", "more"]
theorem ns_times_end : NScope N_times_end P_times_end R_times_end (C8.fnScope n_times_end) := nscope_by (by decide +kernel)
theorem nd_times_end : ndefB (defScope s_times) (C8.fnScope n_times_end) R_times_end = true := by decide +kernel
theorem nc_times_end : cellsB (defScope s_times) (C8.fnScope n_times_end) = true := by decide +kernel

abbrev Q_times : Str := (envOfC "times" (defScope s_times) 0 0 .none).qual
abbrev nm_times : Nat → Nat → Str := fun l _ => if l = lineOf n_times_step then Q_times ++ "step" else Q_times ++ "end"
structure TxtN2 (bh : Heap) (mg : Str → Option Value) (NT : List NTab) (c p : Addr) (nm : Nat → Nat → Str) : Prop where
  tb : TabB bh mg c p
  tm : (p, nm) ∈ NT
  tu : ∀ x ∈ NT, x.1 = p → x.2 = nm
/-- a code's states as keys -/
def tst (rs : List Row) (L : List Nat) : Key → Nat → Key
  | .inl n, c => .inl (stepR rs L (n, 0) c).1
  | k, _ => k
def tbt (rs : List Row) (L : List Nat) (factor : Int) : Key → Nat → Int
  | .inl n, c => (stepR rs L (n, 0) c).2 * factor
  | _, _ => 0
def ten (es : List Int) (factor more : Int) : Key → Int
  | .inl n => es.getD n.toNat 0 * factor + more
  | _ => 0
def tDm (rs : List Row) (k : Key) : Prop := ∃ n : Int, 0 ≤ n ∧ n < rs.length ∧ k = .inl n
section
variable {P : Program} {w : World} {K : PySem.W.Frag} {mg : Str → Option Value} {base : Heap}
theorem nok_times_step {C fR fCS B CB fB' : Addr} {fdR : FuncData} {o : Addr} {z : Str} {rs : List Row} {es : List Int} {factor : Int} {fg c' : Addr} {cl : List (Str × Addr)} {q : Str} (T : TxtK K mg C fCS B CB fB') (mtRun : Meth K C "run" fR) (FR : Fun K "run" "Code.run" s_Code_run fR fdR) (bR : Binds K fdR P_Code_run []) (hg : GoodS z.length rs) (hz : z.length ≤ 26) (hf : -(2 ^ 64) < factor ∧ factor < 2 ^ 64) :
    NOk P w K mg base CX0 2 fg (NF.of n_times_step "step" q cl c') P_times_step R_times_step (fun ws vs H Q E => ws = [some (.ref o), some (.int factor)] ∧ CodeAt K C H o z rs es ∧ spStep2 kdK (tst rs (TL.tl z)) (tbt rs (TL.tl z) factor) (tDm rs) z vs H Q E) := by
  have GR : FnOk P w K mg base CX0 1 fR fdR P_Code_run (spRun K C) := ok_run FR T
  refine nok_of ns_times_step (fun doc pm ctv us hl => match us, hl with | [_, _], _ => rfl) (fun ws vs H Q E h => ?_) (fun A outer s H vs ws Q E hr h1 h2 h3 h => ?_)
  · obtain ⟨_, _, v, k, c, rfl, _⟩ := h
    rfl
  · obtain ⟨rfl, hC, v, k, c, rfl, hat, hD, hc, kq⟩ := h
    have hu := hu_of hr
    refine ⟨_, (pss_cons (ps_asg (pe_meth (pv 2) T.cl mtRun GR (hr.mono (by decide)) bR .nil pass0 (pa_cons (pv 0) (pa_cons (pv 1) pa_nil))) (pg_tup (by rfl) (pgs_cons (pg_name (i := 4) ns_times_step.nd rfl (Or.inl rfl)) (pgs_cons (pg_name (i := 5) ns_times_step.nd rfl (Or.inl rfl)) pgs_nil))))
      (pss_one (ps_ret (pe_tup (pa_cons (pv 4) (pa_cons (pe_op op_mul (pv 5) (pv 3)) pa_nil)))))), ?_⟩
    obtain ⟨n, n0, nl, rfl⟩ := hD
    obtain rfl : v = .int n := hat
    obtain ⟨dx, RR, Ev, ho, hR, hE⟩ := id hC
    refine ⟨_, rfl, o, dx, _, rfl, ho, cf_no _ _ _ (by decide +kernel) (by decide +kernel) (by decide +kernel), _, rfl, _, rfl, o, n, z, sg c, rs, es, rfl, hC, hg, hz, (fun x hx => ?_), n0, nl, fun t H1 s1 ht => ?_⟩
    · rw [sg_tl] at hx
      rw [List.mem_singleton.mp hx]; exact hc
    rw [sg_tl] at ht
    refine ⟨t, _, rfl, SqT.of ht, rfl, _, _, rfl, _, _, rfl, rfl, ?_⟩
    refine ⟨_, rfl, _, rfl, _, rfl, _, _, rfl, rfl, Or.inr hf, by show 2 ≤ sizeLine; decide, fun t2 ht2 => kq t2 _ _ (s1.trans (same_new ht2)) (by rw [upd_same]; rfl) rfl⟩
theorem nok_times_end {C fCS B CB fB' : Addr} {o : Addr} {z : Str} {rs : List Row} {es : List Int} {factor more : Int} {fg c' : Addr} {cl : List (Str × Addr)} {q : Str} (T : TxtK K mg C fCS B CB fB') (he : es.length = rs.length) (hf : -(2 ^ 64) < factor ∧ factor < 2 ^ 64) :
    NOk P w K mg base CX0 1 fg (NF.of n_times_end "end" q cl c') P_times_end R_times_end (fun ws vs H Q E => ws = [some (.ref o), some (.int factor), some (.int more)] ∧ CodeAt K C H o z rs es ∧ spEnd kdK (ten es factor more) (tDm rs) vs H Q E) := by
  refine nok_of ns_times_end (fun doc pm ctv us hl => match us, hl with | [_], _ => rfl) (fun ws vs H Q E h => ?_) (fun A outer s H vs ws Q E hr h1 h2 h3 h => ?_)
  · obtain ⟨_, _, v, k, rfl, _⟩ := h
    rfl
  · obtain ⟨rfl, hC, v, k, rfl, hat, hD, kq⟩ := h
    have hu := hu_of hr
    refine ⟨_, (pss_one (ps_ret (pe_op op_add (pe_op op_mul (pe_ix ix_tup (pe_fld (pv 1) rfl) (pv 0) (fun _ _ => rfl)) (pv 2)) (pv 3)))), ?_⟩
    obtain ⟨n, n0, nl, rfl⟩ := hD
    obtain rfl : v = .int n := hat
    obtain ⟨dx, RR, Ev, ho, hR, hE⟩ := id hC
    obtain ⟨ea, exs, rfl, hes, hed⟩ := hE.tupE
    obtain rfl := dpAll_intsE hed
    have hn : es[n.toNat]? = some (es.getD n.toNat 0) := by
      rw [List.getD_eq_getElem?_getD, List.getElem?_eq_getElem (by omega)]; rfl
    refine ⟨_, rfl, o, C, dx, _, _, rfl, ho, T.cl, T.nE, cf_ends _ _ _, _, rfl, ea, _, n, .int (es.getD n.toNat 0), rfl, rfl, hes, at_of' (show n = ((n.toNat : Nat) : Int) by omega) (by rw [List.getElem?_map, hn]; rfl), _, rfl, _, _, rfl, rfl, Or.inr hf, _, rfl, _, _, rfl, rfl, ?_⟩
    exact kq H (Same.refl H)
def spTimes (K : PySem.W.Frag) (NT : List NTab) (C : Addr) : Sp := fun vs H Q _ => ∃ (o : Addr) (factor more : Int) (z : Str) (rs : List Row) (es : List Int), vs = [.ref o, .int factor, .int more] ∧ CodeAt K C H o z rs es ∧ GoodS z.length rs ∧ es.length = rs.length ∧ 0 < rs.length ∧ rs.length ≤ 40 ∧ z.length ≤ 3 ∧ (-(2 ^ 64) < factor ∧ factor < 2 ^ 64) ∧ TabsN NT H ∧
  Made K NT C z (tst rs (TL.tl z)) (tbt rs (TL.tl z) factor) (ten es factor more) (Sum.inl 0 : Key) H Q
theorem tst_dm {rs : List Row} {z : Str} (hg : GoodS z.length rs) : ∀ k c, tDm rs k → c ∈ TL.tl z → tDm rs (tst rs (TL.tl z) k c) := by
  rintro k c ⟨n, n0, nl, rfl⟩ hc
  obtain ⟨h, h', e, a, b⟩ := at_row hg n0 nl (j := (TL.tl z).idxOf c) (by rw [TL.len_tl]; exact idx_lt hc)
  refine ⟨(stepR rs (TL.tl z) (n, 0) c).1, ?_, ?_, rfl⟩
  · unfold stepR
    simp only [e]
    exact a
  · unfold stepR
    simp only [e]
    exact b
theorem ok_times {NT : List NTab} {f fM fX fI fR C CT fT fCS B CB fB' cM pM cT pT : Addr} {fd fdM fdX fdT fdI fdR fdCS fdB : FuncData} (F : FunC K "times" "times" s_times f fd cT) (T1 : TxtN2 base mg NT cT pT nm_times) (mmade : mg "made" = some (.ref fM)) (kmade : PySem.W.keepIn K (.ref fM) = true)
    (mtRun : Meth K C "run" fR) (FR : Fun K "run" "Code.run" s_Code_run fR fdR) (bR : Binds K fdR P_Code_run [])
    (FM : FunC K "made" "made" s_made fM fdM cM) (bM : Binds K fdM P_made []) (T : TxtM K mg base NT C fCS B CB fB' fX cM pM) (TE : TxtE K mg B CT fT)
    (FX : Fun K "explored" "explored" s_explored fX fdX) (bX : Binds K fdX P_explored []) (FT : Fun K "__init__" "TooMany.__init__" s_TooMany___init__ fT fdT) (bT : Binds K fdT P_TooMany___init__ [])
    (MCode : Mk K C fI) (FI : Fun K "__init__" "Code.__init__" s_Code___init__ fI fdI) (bCode : Binds K fdI P_Code___init__ []) (FCS : Fun K "check_states" "check_states" s_check_states fCS fdCS) (bcheck_states : Binds K fdCS P_check_states [])
    (FB' : Fun K "__init__" "BadCode.__init__" s_BadCode___init__ fB' fdB) (bB' : Binds K fdB P_BadCode___init__ []) : FnOk P w K mg base (L2.CX P w) 11 f fd P_times (spTimes K NT C) := by
  have GM : FnOk P w K mg base (L2.CX P w) 10 fM fdM P_made (spMade P w K mg base NT C CT kdK) := ok_made kdK FM T TE FX bX FT bT MCode FI bCode FCS bcheck_states FB' bB'
  refine F.okX sc_times (fun vs H Q E h => ?_) (fun A outer s H vs Q E hr h => ?_)
  · obtain ⟨o, factor, more, z, rs, es, rfl, _⟩ := h
    rfl
  · obtain ⟨o, factor, more, z, rs, es, rfl, hC, hg, he, h0, h40, hz, hf, hT, kq⟩ := h
    have hu := hu_of hr
    have passL : Passes (L2.CX P w) (cxOf (L2.CX P w) P w K mg base N_times "times" (defScope s_times) f (.ref cT) A outer s H E) E := passes_call (takes_of rfl rfl rfl rfl) (fun _ _ _ _ h => h)
    refine ⟨_, (pss_cons (ps_ndefMS (i := 3) (st := n_times_step) rfl T1.tb rfl T1.tm rfl T1.tu (ndef_free nd_times_step) rfl rfl rfl sc_times.nd rfl (Or.inl rfl) (Or.inr rfl))
      (pss_cons (ps_ndefMS (i := 4) (st := n_times_end) rfl T1.tb rfl T1.tm rfl T1.tu (ndef_free nd_times_end) rfl rfl rfl sc_times.nd rfl (Or.inl rfl) (Or.inr rfl))
      (pss_one (ps_ret (pe_callC cxok GM (hr.mono (by decide)) (fun _ => rfl) (by rfl) mmade kmade bM .nil passL (pa_cons (pe_fld (pv 0) rfl) (pa_cons pe_int (pa_cons (pv 3) (pa_cons (pv 4) pa_nil))))))))), ?_⟩
    refine ⟨hT, fun fg c' H1 eN back T1' nf hfg hc => ?_⟩
    have st1 : SameT NT H H1 := ⟨eN, back, T1'⟩
    refine ⟨T1', fun fe ce H2 eN2 back2 T2' nf2 hfe hce => ?_⟩
    have st2 : SameT NT H1 H2 := ⟨eN2, back2, T2'⟩
    have st12 := st1.trans st2
    have hC2 : CodeAt K C H2 o z rs es := stab_code H H2 hC st12.ext
    have hfg2 := st2.ext _ _ hfg fnO_ne
    have hc2 := st2.ext _ _ hc (fun _ z => nomatch z)
    obtain ⟨dx, RR, Ev, ho, hR, hE⟩ := id hC2
    refine ⟨_, rfl, o, C, dx, _, _, rfl, ho, T.cl, T.nL, cf_letters _ _ _, _, rfl, _, rfl, fun cs hcap hcn => ?_⟩
    have hcapS := cap_of (scope := C8.fnScope n_times_step) (fr := R_times_step) (js := [0, 1]) hcap (cells_free nc_times_step) (ndef_fr nd_times_step) rfl
    have hcapE := cap_of (scope := C8.fnScope n_times_end) (fr := R_times_end) (js := [0, 1, 2]) hcap (cells_free nc_times_end) (ndef_fr nd_times_end) rfl
    have FG := (fv_of_nok cxok0 (nok_times_step (P := P) (w := w) (mg := mg) (base := base) (fg := fg) (c' := c') (cl := _) (q := Q_times ++ "step") (o := o) (es := es) T.toTxtK mtRun FR bR hg (by omega) hf) hcapS).mono (by decide : 2 ≤ 6)
    have FE := (fv_of_nok cxok0 (nok_times_end (P := P) (w := w) (mg := mg) (base := base) (fg := fe) (c' := ce) (cl := _) (q := Q_times ++ "end") (o := o) (z := z) (more := more) T.toTxtK he hf) hcapE).mono (by decide : 1 ≤ 6)
    have FG2 := FG.imp (S' := fun H => HeldF fg (NF.of n_times_step "step" (Q_times ++ "step") (cloFrom (cxOf (L2.CX P w) P w K mg base N_times "times" (defScope s_times) f (.ref cT) A outer s H E).env.cells (C8.fnScope n_times_step).names []) c') cs H ∧ CodeAt K C H o z rs es) (sp' := spStep2 kdK (tst rs (TL.tl z)) (tbt rs (TL.tl z) factor) (tDm rs) z)
      (fun H h => h.1) (fun vs H Q E h q => ⟨rfl, h.2.hid h.1.cells, step2_hid h.1.cells q⟩)
    have FE2 := FE.imp (S' := fun H => HeldF fe (NF.of n_times_end "end" (Q_times ++ "end") (cloFrom (cxOf (L2.CX P w) P w K mg base N_times "times" (defScope s_times) f (.ref cT) A outer s H E).env.cells (C8.fnScope n_times_end).names []) ce) cs H ∧ CodeAt K C H o z rs es) (sp' := spEnd kdK (ten es factor more) (tDm rs))
      (fun H h => h.1) (fun vs H Q E h q => ⟨rfl, h.2.hid h.1.cells, end_hid h.1.cells q⟩)
    have hlen : (turns (tst rs (TL.tl z)) (TL.tl z) (Sum.inl 0 : Key) 40).1.length ≤ 40 := by
      have := nodup_le (ys := (List.range rs.length).map fun (i : Nat) => (Sum.inl (i : Int) : Key)) (turns_nodup (tst rs (TL.tl z)) (TL.tl z) (Sum.inl 0 : Key) 40) (fun x hx => by
        obtain ⟨n, n0, nl, rfl⟩ := turns_dm (Dm := tDm rs) (tst rs (TL.tl z)) (TL.tl z) (Sum.inl 0 : Key) ⟨0, Int.le_refl _, by omega, rfl⟩ (tst_dm hg) 40 x hx
        exact List.mem_map.mpr ⟨n.toNat, List.mem_range.mpr (by omega), by show (Sum.inl ((n.toNat : Nat) : Int) : Key) = Sum.inl n; congr 1; omega⟩)
      rw [List.length_map, List.length_range] at this
      omega
    refine ⟨z, .int 0, fg, fe, Sum.inl 0, tst rs (TL.tl z), _, _, tDm rs, _, _, rfl, rfl, ⟨0, Int.le_refl _, by omega, rfl⟩, tst_dm hg, ⟨⟨shw_keep hcn hfg2, shw_keep hcn hc2, held_shw⟩, hC2.shw hcn⟩, ⟨⟨shw_keep hcn hfe, shw_keep hcn hce, held_shw⟩, hC2.shw hcn⟩, (stab_heldF _ _ _).and stab_code, (stab_heldF _ _ _).and stab_code, FG2, FE2, by omega, (SameT.of (same_shw hcn) st12.tab).tab, fun hle o2 H3 s3 hC3 => ?_, fun hgt => absurd hlen (by omega)⟩
    obtain ⟨hh, s4⟩ := sameT_hid hcap.data hcn s3
    exact ⟨hh, kq o2 _ (st12.trans s4) (hC3.hid hh) hlen⟩
end
end Vf
set_option Elab.async false
set_option linter.all false
set_option maxRecDepth 100000
set_option maxHeartbeats 4000000
namespace Vf
open PySem L2 PyProof.Rows
open NdefX LamX
abbrev s_translated : Stmt := top 26
abbrev N_translated : List Str := ["values", "words", "code", "place", "value", "step", "end"]
abbrev P_translated : List Str := ["values", "words", "code"]
theorem sc_translated : FnScope N_translated P_translated (defScope s_translated) := ⟨rfl, rfl, rfl, by decide +kernel, rfl, by decide +kernel, by decide +kernel⟩

abbrev n_translated_step : Stmt := (defBody s_translated).getD 1 (.Pass ⟨0, 0, 0, 0⟩)
abbrev N_translated_step : List Str := ["memory", "value", "code", "words"]
abbrev P_translated_step : List Str := ["memory", "value"]
abbrev R_translated_step : List Str := ["code", "words"]
theorem ns_translated_step : NScope N_translated_step P_translated_step R_translated_step (C8.fnScope n_translated_step) := nscope_by (by decide +kernel)
theorem nd_translated_step : ndefB (defScope s_translated) (C8.fnScope n_translated_step) R_translated_step = true := by decide +kernel
theorem nc_translated_step : cellsB (defScope s_translated) (C8.fnScope n_translated_step) = true := by decide +kernel

abbrev n_translated_end : Stmt := (defBody s_translated).getD 2 (.Pass ⟨0, 0, 0, 0⟩)
abbrev N_translated_end : List Str := ["memory", "code"]
abbrev P_translated_end : List Str := ["memory"]
abbrev R_translated_end : List Str := ["code"]
theorem ns_translated_end : NScope N_translated_end P_translated_end R_translated_end (C8.fnScope n_translated_end) := nscope_by (by decide +kernel)
theorem nd_translated_end : ndefB (defScope s_translated) (C8.fnScope n_translated_end) R_translated_end = true := by decide +kernel
theorem nc_translated_end : cellsB (defScope s_translated) (C8.fnScope n_translated_end) = true := by decide +kernel

abbrev Q_translated : Str := (envOfC "translated" (defScope s_translated) 0 0 .none).qual
abbrev nm_translated : Nat → Nat → Str := fun l _ => if l = lineOf n_translated_step then Q_translated ++ "step" else Q_translated ++ "end"
def wst (rs : List Row) (L : List Nat) (wd : Nat → Str) : Key → Nat → Key
  | .inl n, c => .inl (walkR rs L n (TL.tl (wd c))).1
  | k, _ => k
def wbt (rs : List Row) (L : List Nat) (wd : Nat → Str) : Key → Nat → Int
  | .inl n, c => (walkR rs L n (TL.tl (wd c))).2
  | _, _ => 0
def wen (es : List Int) : Key → Int
  | .inl n => es.getD n.toNat 0
  | _ => 0
theorem wst_dm {rs : List Row} {z0 z : Str} {wd : Nat → Str} (hg : GoodS z0.length rs) (hw : ∀ c ∈ TL.tl z, ∀ x ∈ TL.tl (wd c), x ∈ TL.tl z0) : ∀ k c, tDm rs k → c ∈ TL.tl z → tDm rs (wst rs (TL.tl z0) wd k c) := by
  rintro k c ⟨n, n0, nl, rfl⟩ hc
  obtain ⟨a, b⟩ := walkR_ok hg (TL.len_tl z0).symm n0 nl (hw c hc) _ (Nat.le_refl _)
  rw [List.take_length] at a b
  exact ⟨_, a, b, rfl⟩
section
variable {P : Program} {w : World} {K : PySem.W.Frag} {mg : Str → Option Value} {base : Heap}
theorem nok_translated_step {C fR fCS B CB fB' : Addr} {fdR : FuncData} {o d : Addr} {kvs : List (Key × V)} {z z0 : Str} {wd : Nat → Str} {rs : List Row} {es : List Int} {fg c' : Addr} {cl : List (Str × Addr)} {q : Str} (T : TxtK K mg C fCS B CB fB') (mtRun : Meth K C "run" fR) (FR : Fun K "run" "Code.run" s_Code_run fR fdR) (bR : Binds K fdR P_Code_run []) (hg : GoodS z0.length rs) (hz : z0.length ≤ 26) (hk : ∀ c ∈ TL.tl z, valV kvs (Sum.inr (sg c)) = some (.str (wd c))) (hw : ∀ c ∈ TL.tl z, ∀ x ∈ TL.tl (wd c), x ∈ TL.tl z0) :
    NOk P w K mg base CX0 2 fg (NF.of n_translated_step "step" q cl c') P_translated_step R_translated_step (fun ws vs H Q E => ws = [some (.ref o), some (.ref d)] ∧ CodeAt K C H o z0 rs es ∧ H d = some (.dK kvs) ∧ spStep2 kdK (wst rs (TL.tl z0) wd) (wbt rs (TL.tl z0) wd) (tDm rs) z vs H Q E) := by
  have GR : FnOk P w K mg base CX0 1 fR fdR P_Code_run (spRun K C) := ok_run FR T
  refine nok_of ns_translated_step (fun doc pm ctv us hl => match us, hl with | [_, _], _ => rfl) (fun ws vs H Q E h => ?_) (fun A outer s H vs ws Q E hr h1 h2 h3 h => ?_)
  · obtain ⟨_, _, _, v, k, c, rfl, _⟩ := h
    rfl
  · obtain ⟨rfl, hC, hd, v, k, c, rfl, hat, hD, hc, kq⟩ := h
    have hu := hu_of hr
    refine ⟨_, (pss_one (ps_ret (pe_meth (pv 2) T.cl mtRun GR (hr.mono (by decide)) bR .nil pass0 (pa_cons (pv 0) (pa_cons (pe_dget hu (pv 3) (pv 1) (fun _ _ => rfl)) pa_nil))))), ?_⟩
    obtain ⟨n, n0, nl, rfl⟩ := hD
    obtain rfl : v = .int n := hat
    obtain ⟨dx, RR, Ev, ho, hR, hE⟩ := id hC
    refine ⟨_, rfl, o, dx, _, rfl, ho, cf_no _ _ _ (by decide +kernel) (by decide +kernel) (by decide +kernel), _, rfl, _, rfl, _, rfl, d, .str (wd c), rfl, ?_, o, n, z0, wd c, rs, es, rfl, hC, hg, hz, hw c hc, n0, nl, fun t H1 s1 ht => ?_⟩
    · have := DGet.k (k := Sum.inr (sg c)) hd
      rw [hk c hc] at this
      exact this
    exact kq t _ _ s1 ht rfl
theorem nok_translated_end {C fCS B CB fB' : Addr} {o : Addr} {z0 : Str} {rs : List Row} {es : List Int} {fg c' : Addr} {cl : List (Str × Addr)} {q : Str} (T : TxtK K mg C fCS B CB fB') (he : es.length = rs.length) :
    NOk P w K mg base CX0 1 fg (NF.of n_translated_end "end" q cl c') P_translated_end R_translated_end (fun ws vs H Q E => ws = [some (.ref o)] ∧ CodeAt K C H o z0 rs es ∧ spEnd kdK (wen es) (tDm rs) vs H Q E) := by
  refine nok_of ns_translated_end (fun doc pm ctv us hl => match us, hl with | [_], _ => rfl) (fun ws vs H Q E h => ?_) (fun A outer s H vs ws Q E hr h1 h2 h3 h => ?_)
  · obtain ⟨_, _, v, k, rfl, _⟩ := h
    rfl
  · obtain ⟨rfl, hC, v, k, rfl, hat, hD, kq⟩ := h
    have hu := hu_of hr
    refine ⟨_, (pss_one (ps_ret (pe_ix ix_tup (pe_fld (pv 1) rfl) (pv 0) (fun _ _ => rfl)))), ?_⟩
    obtain ⟨n, n0, nl, rfl⟩ := hD
    obtain rfl : v = .int n := hat
    obtain ⟨dx, RR, Ev, ho, hR, hE⟩ := id hC
    obtain ⟨ea, exs, rfl, hes, hed⟩ := hE.tupE
    obtain rfl := dpAll_intsE hed
    have hn : es[n.toNat]? = some (es.getD n.toNat 0) := by
      rw [List.getD_eq_getElem?_getD, List.getElem?_eq_getElem (by omega)]; rfl
    refine ⟨_, rfl, o, C, dx, _, _, rfl, ho, T.cl, T.nE, cf_ends _ _ _, _, rfl, ea, _, n, .int (es.getD n.toNat 0), rfl, rfl, hes, at_of' (show n = ((n.toNat : Nat) : Int) by omega) (by rw [List.getElem?_map, hn]; rfl), ?_⟩
    exact kq H (Same.refl H)
def spTrans (K : PySem.W.Frag) (NT : List NTab) (C CV : Addr) : Sp := fun vs H Q E => ∃ (z : Str) (d o : Addr) (z0 : Str) (rs : List Row) (es : List Int) (kvs : List (Key × V)) (wd : Nat → Str), vs = [.str z, .ref d, .ref o] ∧ CodeAt K C H o z0 rs es ∧ GoodS z0.length rs ∧ es.length = rs.length ∧ 0 < rs.length ∧ rs.length ≤ 40 ∧ z0.length ≤ 26 ∧ z.length ≤ 3 ∧
  H d = some (.dK kvs) ∧ (∀ c ∈ TL.tl z, valV kvs (Sum.inr (sg c)) = some (.str (wd c))) ∧ TabsN NT H ∧
  ((∀ c ∈ TL.tl z, ∀ x ∈ TL.tl (wd c), x ∈ TL.tl z0) → Made K NT C z (wst rs (TL.tl z0) wd) (wbt rs (TL.tl z0) wd) (wen es) (Sum.inl 0 : Key) H Q) ∧
  (∀ (i : Nat) (c : Nat), (TL.tl z)[i]? = some c → (¬ ∀ x ∈ TL.tl (wd c), x ∈ TL.tl z0) → (∀ (j : Nat) (c' : Nat), j < i → (TL.tl z)[j]? = some c' → ∀ x ∈ TL.tl (wd c'), x ∈ TL.tl z0) → EBV CV H E i)
theorem ok_translated {NT : List NTab} {f fM fX fI fR fSP fV fCL C CT CV fT fCS B CB fB' cM pM cT pT : Addr} {fd fdM fdX fdT fdI fdR fdCS fdB fdSP fdV : FuncData} (F : FunC K "translated" "translated" s_translated f fd cT) (T1 : TxtN2 base mg NT cT pT nm_translated) (mmade : mg "made" = some (.ref fM)) (kmade : PySem.W.keepIn K (.ref fM) = true)
    (mtRun : Meth K C "run" fR) (FR : Fun K "run" "Code.run" s_Code_run fR fdR) (bR : Binds K fdR P_Code_run [])
    (TL' : TxtL K mg C fCS fSP B CB fB' CV fV fCL fR) (FSP : Fun K "strange_place" "strange_place" s_strange_place fSP fdSP) (bstrange_place : Binds K fdSP P_strange_place []) (FV : Fun K "__init__" "BadValue.__init__" s_BadValue___init__ fV fdV) (bV : Binds K fdV P_BadValue___init__ [])
    (FM : FunC K "made" "made" s_made fM fdM cM) (bM : Binds K fdM P_made []) (T : TxtM K mg base NT C fCS B CB fB' fX cM pM) (TE : TxtE K mg B CT fT)
    (FX : Fun K "explored" "explored" s_explored fX fdX) (bX : Binds K fdX P_explored []) (FT : Fun K "__init__" "TooMany.__init__" s_TooMany___init__ fT fdT) (bT : Binds K fdT P_TooMany___init__ [])
    (MCode : Mk K C fI) (FI : Fun K "__init__" "Code.__init__" s_Code___init__ fI fdI) (bCode : Binds K fdI P_Code___init__ []) (FCS : Fun K "check_states" "check_states" s_check_states fCS fdCS) (bcheck_states : Binds K fdCS P_check_states [])
    (FB' : Fun K "__init__" "BadCode.__init__" s_BadCode___init__ fB' fdB) (bB' : Binds K fdB P_BadCode___init__ []) : FnOk P w K mg base (L2.CX P w) 11 f fd P_translated (spTrans K NT C CV) := by
  have GM : FnOk P w K mg base (L2.CX P w) 10 fM fdM P_made (spMade P w K mg base NT C CT kdK) := ok_made kdK FM T TE FX bX FT bT MCode FI bCode FCS bcheck_states FB' bB'
  have Gstrange_place : FnOk P w K mg base CX0 1 fSP fdSP P_strange_place spStrange := ok_strange FSP ⟨TL'.enumerate⟩
  have GV : FnOk P w K mg base CX0 1 fV fdV P_BadValue___init__ (spErr CV "place") := ok_bv FV TL'.base TL'.bv
  refine F.okX sc_translated (fun vs H Q E h => ?_) (fun A outer s H vs Q E hr h => ?_)
  · obtain ⟨z, d, o, z0, rs, es, kvs, wd, rfl, _⟩ := h
    rfl
  · obtain ⟨z, d, o, z0, rs, es, kvs, wd, rfl, hC, hg, he, h0, h40, hz0, hz, hd, hk, hT, kq, ke⟩ := h
    have hu := hu_of hr
    have passL : Passes (L2.CX P w) (cxOf (L2.CX P w) P w K mg base N_translated "translated" (defScope s_translated) f (.ref cT) A outer s H E) E := passes_call (takes_of rfl rfl rfl rfl) (fun _ _ _ _ h => h)
    refine ⟨_, (pss_cons (ps_for (passes_of rfl) rfl (pi_enumS (by rfl) TL'.enumerate (pa_cons (pv 0) pa_nil)) (pg_tup (by rfl) (pgs_cons (pg_name (i := 3) sc_translated.nd rfl (Or.inl rfl)) (pgs_cons (pg_name (i := 4) sc_translated.nd rfl (Or.inl rfl)) pgs_nil))) (pss_one (ps_if (pt_cmpR op_notN (pe_call Gstrange_place (hr.mono (by decide)) (by rfl) TL'.mstrange_place TL'.kstrange_place bstrange_place .nil pass0 (pa_cons (pe_fld (pv 2) rfl) (pa_cons (pe_dget hu (pv 1) (pv 4) (fun _ _ => rfl)) pa_nil))) pe_non (nomark _)) (pss_one (ps_raise rfl (takes_of rfl rfl rfl rfl) (pmk_oex TL'.bv.oex TL'.bv.iC TL'.bv.tI GV (hr.mono (by decide)) bV .nil pass0 (by rfl) TL'.bv.g (pa_cons (pv 3) pa_nil)))) pss_nil)))
      (pss_cons (ps_ndefMS (i := 5) (st := n_translated_step) rfl T1.tb rfl T1.tm rfl T1.tu (ndef_free nd_translated_step) rfl rfl rfl sc_translated.nd rfl (Or.inl rfl) (Or.inr rfl))
      (pss_cons (ps_ndefMS (i := 6) (st := n_translated_end) rfl T1.tb rfl T1.tm rfl T1.tu (ndef_free nd_translated_end) rfl rfl rfl sc_translated.nd rfl (Or.inl rfl) (Or.inr rfl))
      (pss_one (ps_ret (pe_callC cxok GM (hr.mono (by decide)) (fun _ => rfl) (by rfl) mmade kmade bM .nil passL (pa_cons (pv 0) (pa_cons pe_int (pa_cons (pv 5) (pa_cons (pv 6) pa_nil)))))))))), ?_⟩
    refine ⟨_, rfl, z, rfl, for_it walk_enumS (fun i σ H1 => ∃ v3 v4 : Option V, σ = [some (.str z), some (.ref d), some (.ref o), v3, v4, none, none] ∧ Same H H1 ∧ ∀ (j : Nat) (c : Nat), j < i → (TL.tl z)[j]? = some c → ∀ x ∈ TL.tl (wd c), x ∈ TL.tl z0)
      ⟨none, none, rfl, Same.refl H, fun j c h => absurd h (Nat.not_lt_zero _)⟩ (fun _ _ _ _ _ => trivial) ?_ ?_⟩
    · rintro i x σ H1 H2 hi ⟨v3, v4, rfl, s1, hj⟩ ⟨q, c, rfl, hq, rfl, hc⟩
      have hcz : c ∈ TL.tl z := List.mem_of_getElem? hc
      have s2 : Same H (L2.upd H1 q (.tup [.int (i : Nat), .str (sg c)])) := s1.trans (same_new hq)
      have hq2 : (L2.upd H1 q (.tup [.int (i : Nat), .str (sg c)])) q = some (.tup [.int (i : Nat), .str (sg c)]) := upd_same
      generalize L2.upd H1 q (.tup [.int (i : Nat), .str (sg c)]) = H2 at s2 hq2 ⊢
      obtain ⟨dx, RR, Ev, ho, hR, hE⟩ := id (hC.same s2)
      refine ⟨q, _, rfl, SqT.of hq2, rfl, _, _, rfl, _, _, rfl, rfl, ?_⟩
      refine ⟨_, rfl, o, C, dx, _, _, rfl, ho, T.cl, T.nL, cf_letters _ _ _, _, rfl, _, rfl, d, .str (wd c), rfl, ?_, z0, wd c, rfl, fun H3 s3 => ?_⟩
      · have := DGet.k (k := Sum.inr (sg c)) (s2 _ _ hd)
        rw [hk c hcz] at this
        exact this
      have s23 := s2.trans s3
      cases hs : strange z0 (wd c) with
      | none =>
        refine ⟨rfl, _, rfl, ite2 (fun c0 => absurd c0 (by simp)) (fun _ => ⟨_, _, rfl, s23, fun j c' h2 h3 => ?_⟩)⟩
        by_cases e : j = i
        · rw [e, hc] at h3
          rw [← Option.some.inj h3]; exact strange_none hs
        · exact hj j c' (by omega) h3
      | some i' =>
        refine ⟨rfl, _, rfl, ite2 (fun _ => ?_) (fun c0 => absurd c0 (by simp))⟩
        have hbad : ¬ ∀ x ∈ TL.tl (wd c), x ∈ TL.tl z0 := fun h => by
          have : strange z0 (wd c) = none := List.findIdx?_eq_none_iff.mpr fun x hx => by simpa using h x hx
          rw [this] at hs
          cases hs
        refine ⟨_, rfl, by show 1 ≤ 1000; decide, fun a ha => ⟨a, _, rfl, upd_same, fun d' hd' hda => ⟨rfl, d', [("place", V.int (i : Nat))], upd_same, ?_, ?_, ?_⟩⟩⟩
        · rw [upd_ne hda, upd_same]
        · rw [upd_ne hda] at hd'; exact hd'
        · rw [upd_ne hda] at hd'
          exact ke i c hc hbad hj d' _ (Raised.aft s23 (raised_of ha hd' hda))
    · rintro σ H1 ⟨v3, v4, rfl, s1, hj⟩
      have hw : ∀ c ∈ TL.tl z, ∀ x ∈ TL.tl (wd c), x ∈ TL.tl z0 := fun c hc => by
        obtain ⟨j, hlt, e⟩ := List.getElem_of_mem hc
        exact hj j c (by rw [TL.len_tl]; exact hlt) (by rw [List.getElem?_eq_getElem hlt, e])
      have kq := kq hw
      have hT1 : TabsN NT H1 := hT.ext fun b o e => s1 b o e
      refine ⟨hT1, fun fg c' H2 eN back T1' nf hfg hc => ?_⟩
      have st0 : SameT NT H H1 := SameT.of s1 hT
      have st1 : SameT NT H1 H2 := ⟨eN, back, T1'⟩
      refine ⟨T1', fun fe ce H3 eN2 back2 T2' nf2 hfe hce => ?_⟩
      have st2 : SameT NT H2 H3 := ⟨eN2, back2, T2'⟩
      have st12 := (st0.trans st1).trans st2
      have hC2 : CodeAt K C H3 o z0 rs es := stab_code H H3 hC st12.ext
      have hd2 := st12.ext _ _ hd (fun _ z => nomatch z)
      have hfg2 := st2.ext _ _ hfg fnO_ne
      have hc2 := st2.ext _ _ hc (fun _ z => nomatch z)
      refine ⟨_, rfl, _, rfl, _, rfl, fun cs hcap hcn => ?_⟩
      have hcapS := cap_of (scope := C8.fnScope n_translated_step) (fr := R_translated_step) (js := [2, 1]) hcap (cells_free nc_translated_step) (ndef_fr nd_translated_step) rfl
      have hcapE := cap_of (scope := C8.fnScope n_translated_end) (fr := R_translated_end) (js := [2]) hcap (cells_free nc_translated_end) (ndef_fr nd_translated_end) rfl
      have FG := (fv_of_nok cxok0 (nok_translated_step (P := P) (w := w) (mg := mg) (base := base) (fg := fg) (c' := c') (cl := _) (q := Q_translated ++ "step") (o := o) (d := d) (kvs := kvs) (z := z) (es := es) T.toTxtK mtRun FR bR hg hz0 hk hw) hcapS).mono (by decide : 2 ≤ 6)
      have FE := (fv_of_nok cxok0 (nok_translated_end (P := P) (w := w) (mg := mg) (base := base) (fg := fe) (c' := ce) (cl := _) (q := Q_translated ++ "end") (o := o) (z0 := z0) T.toTxtK he) hcapE).mono (by decide : 1 ≤ 6)
      have FG2 := FG.imp (S' := fun H => HeldF fg (NF.of n_translated_step "step" (Q_translated ++ "step") (cloFrom (cxOf (L2.CX P w) P w K mg base N_translated "translated" (defScope s_translated) f (.ref cT) A outer s H E).env.cells (C8.fnScope n_translated_step).names []) c') cs H ∧ CodeAt K C H o z0 rs es ∧ H d = some (.dK kvs)) (sp' := spStep2 kdK (wst rs (TL.tl z0) wd) (wbt rs (TL.tl z0) wd) (tDm rs) z)
        (fun H h => h.1) (fun vs H Q E h q => ⟨rfl, h.2.1.hid h.1.cells, hid_keep h.1.cells h.2.2 (fun _ z => nomatch z), step2_hid h.1.cells q⟩)
      have FE2 := FE.imp (S' := fun H => HeldF fe (NF.of n_translated_end "end" (Q_translated ++ "end") (cloFrom (cxOf (L2.CX P w) P w K mg base N_translated "translated" (defScope s_translated) f (.ref cT) A outer s H E).env.cells (C8.fnScope n_translated_end).names []) ce) cs H ∧ CodeAt K C H o z0 rs es) (sp' := spEnd kdK (wen es) (tDm rs))
        (fun H h => h.1) (fun vs H Q E h q => ⟨rfl, h.2.hid h.1.cells, end_hid h.1.cells q⟩)
      have hlen : (turns (wst rs (TL.tl z0) wd) (TL.tl z) (Sum.inl 0 : Key) 40).1.length ≤ 40 := by
        have := nodup_le (ys := (List.range rs.length).map fun (i : Nat) => (Sum.inl (i : Int) : Key)) (turns_nodup (wst rs (TL.tl z0) wd) (TL.tl z) (Sum.inl 0 : Key) 40) (fun x hx => by
          obtain ⟨n, n0, nl, rfl⟩ := turns_dm (Dm := tDm rs) (wst rs (TL.tl z0) wd) (TL.tl z) (Sum.inl 0 : Key) ⟨0, Int.le_refl _, by omega, rfl⟩ (wst_dm hg hw) 40 x hx
          exact List.mem_map.mpr ⟨n.toNat, List.mem_range.mpr (by omega), by show (Sum.inl ((n.toNat : Nat) : Int) : Key) = Sum.inl n; congr 1; omega⟩)
        rw [List.length_map, List.length_range] at this
        omega
      refine ⟨z, .int 0, fg, fe, Sum.inl 0, wst rs (TL.tl z0) wd, _, _, tDm rs, _, _, rfl, rfl, ⟨0, Int.le_refl _, by omega, rfl⟩, wst_dm hg hw, ⟨⟨shw_keep hcn hfg2, shw_keep hcn hc2, held_shw⟩, hC2.shw hcn, shw_keep hcn hd2⟩, ⟨⟨shw_keep hcn hfe, shw_keep hcn hce, held_shw⟩, hC2.shw hcn⟩, (stab_heldF _ _ _).and (stab_code.and (stab_at d (.dK kvs) (fun _ z => nomatch z))), (stab_heldF _ _ _).and stab_code, FG2, FE2, by omega, (SameT.of (same_shw hcn) st12.tab).tab, fun hle o2 H5 s3 hC3 => ?_, fun hgt => absurd hlen (by omega)⟩
      obtain ⟨hh, s4⟩ := sameT_hid hcap.data hcn s3
      exact ⟨hh, kq o2 _ (st12.trans s4) (hC3.hid hh) hlen⟩
end
end Vf
set_option Elab.async false
set_option linter.all false
set_option maxRecDepth 100000
set_option maxHeartbeats 4000000
/-! raise C(): an own class over an own class over ValueError, without __init__, without arguments -/
namespace Vf
open PySem L2 PyProof.Rows
theorem pmk_own0 {X : Cx} {C : Addr} {bmB : List Value} {B newId initId : String} {x : Str} {p pos : Pos} (F : ExcBaseFacts B newId initId bmB) (q : PySem.W.excIn X.K C bmB newId = true) (gC : X.mg x = some (.ref C)) (kC : PySem.W.keepIn X.K (.ref C) = true) (r : Raises X (.ref C)) (hg : Gl X x)
    (hdb : (x == ("__debug__" : Str)) = false := by decide) : PMk X (.Call (.Name x p) [] [] pos) (fun _ H Q => Q (.ref C) none H) := by
  intro pins s σ H Q I h
  refine wpAny_Call_Name_kw (ld_glob I hg gC ?_ hdb)
  obtain ⟨hp1, g1, d1, tk1, os1⟩ := s
  refine PySem.W.callWith_K0 (first := []) I.kIn kC ?_
  obtain ⟨bm, N, nm, qn, bs, hdct, sn, sub, ab, col, dd, k0, k1, k2, k3, k5, mN, hC, hN, hni, T⟩ := exc_obj I.kIn q
  refine wpAny_call_exc_subT F T hC hN hni (fun h' e hm => ?_) (Nat.zero_le _)
  exact mk_of I hm r h (I.hok.gone hm.new)
/-- what is asked of such a class -/
structure PlainE (K : PySem.W.Frag) (mg : Str → Option Value) (x : Str) (C : Addr) (bmB : List Value) (newId : String) : Prop where
  q : PySem.W.excIn K C bmB newId = true
  g : mg x = some (.ref C)
  k : PySem.W.keepIn K (.ref C) = true
  s : PySem.W.subIn K (.ref C) (.type "BaseException") = some true
  t : PySem.W.typeIn K (.ref C) = some (.type "type")
theorem pmk_plain {X : Cx} {C : Addr} {bmB : List Value} {B newId initId : String} {x : Str} {p pos : Pos} (F : ExcBaseFacts B newId initId bmB) (T : PlainE X.K X.mg x C bmB newId) (hg : Gl X x) (hdb : (x == ("__debug__" : Str)) = false := by decide) : PMk X (.Call (.Name x p) [] [] pos) (fun _ H Q => Q (.ref C) none H) :=
  pmk_own0 F T.q T.g T.k (raises_own T.s T.t) hg hdb
end Vf
namespace Vf
open PySem L2 PyProof.Rows
/-- a call without arguments of a function that a name holds, in a try: the promise depends on the slots -/
def tCallV0V (i : Nat) (f : Addr) (S : Hp → Prop) (sp : Sp) (E : L2.St → XK) : TE := fun σ H Q => σ[i]? = some (some (.ref f)) ∧ S H ∧ sp [] H Q (E σ)
theorem pe_callV0V {X : Cx} {CX : CXT} {i k : Nat} {f : Addr} {S : Hp → Prop} {sp : Sp} {E : L2.St → XK} {x : Str} {p pos : Pos} (F : FV X.prog X.w X.K X.mg X.base CX k f S sp) (hr : Room k X.A) (hx : ∀ σ, PassesAt CX X σ (E σ)) (hN : X.N[i]? = some x) (hv : Vis X.env.scope x)
    (hd : (x == ("__debug__" : Str)) = false := by decide) (hcd : (x == ("__classdict__" : Str)) = false := by decide) : PE X (.Call (.Name x p) [] [] pos) (tCallV0V i f S sp E) := by
  refine ⟨fun pins s σ H Q I h => ?_⟩
  obtain ⟨hs, hS, q⟩ := h
  refine wpAny_Call_Name_kw (thn ((pe_var (pos := p) hN hv hd hcd).run pins s σ H (fun v H1 => v = .ref f ∧ H1 = H) I ⟨.ref f, hs, rfl, rfl⟩) fun u s1 ⟨v, H1, I1, r1, q1⟩ => ?_)
  obtain ⟨ev, eH⟩ := q1
  subst ev
  rw [eH] at I1
  have r1' : u = Value.ref f := r1
  subst r1'
  refine PySem.W.callWith_F0 (first := []) (F.fn H s1.heap I1.kIn I1.hok hS) ?_
  refine wpAny_call (codeAny_mono (F.run X.A X.stack s1 H [] [] Q (E σ) hr I1.env0 hS .nil q) fun rr s' hq => ?_)
  rcases rr with er | fl
  · exact hx σ pins H s1 er s' I1 hq
  · cases fl with
    | ret u => exact I1.after hq
    | next => exact hq.elim
    | brk => exact hq.elim
    | cont => exact hq.elim
end Vf
set_option Elab.async false
set_option linter.all false
set_option maxRecDepth 100000
set_option maxHeartbeats 4000000
namespace Vf
open PySem L2 PyProof.Rows
open NdefX LamX
abbrev s_summed : Stmt := top 24
abbrev N_summed : List Str := ["one", "other", "step", "end"]
abbrev P_summed : List Str := ["one", "other"]
theorem sc_summed : FnScope N_summed P_summed (defScope s_summed) := ⟨rfl, rfl, rfl, by decide +kernel, rfl, by decide +kernel, by decide +kernel⟩

abbrev n_summed_step : Stmt := (defBody s_summed).getD 1 (.Pass ⟨0, 0, 0, 0⟩)
abbrev N_summed_step : List Str := ["memory", "value", "one", "other", "goal", "bits", "beside", "more"]
abbrev P_summed_step : List Str := ["memory", "value"]
abbrev R_summed_step : List Str := ["one", "other"]
theorem ns_summed_step : NScope N_summed_step P_summed_step R_summed_step (C8.fnScope n_summed_step) := nscope_by (by decide +kernel)
theorem nd_summed_step : ndefB (defScope s_summed) (C8.fnScope n_summed_step) R_summed_step = true := by decide +kernel
theorem nc_summed_step : cellsB (defScope s_summed) (C8.fnScope n_summed_step) = true := by decide +kernel

abbrev n_summed_end : Stmt := (defBody s_summed).getD 2 (.Pass ⟨0, 0, 0, 0⟩)
abbrev N_summed_end : List Str := ["memory", "one", "other"]
abbrev P_summed_end : List Str := ["memory"]
abbrev R_summed_end : List Str := ["one", "other"]
theorem ns_summed_end : NScope N_summed_end P_summed_end R_summed_end (C8.fnScope n_summed_end) := nscope_by (by decide +kernel)
theorem nd_summed_end : ndefB (defScope s_summed) (C8.fnScope n_summed_end) R_summed_end = true := by decide +kernel
theorem nc_summed_end : cellsB (defScope s_summed) (C8.fnScope n_summed_end) = true := by decide +kernel

abbrev Q_summed : Str := (envOfC "summed" (defScope s_summed) 0 0 .none).qual
abbrev nm_summed : Nat → Nat → Str := fun l _ => if l = lineOf n_summed_step then Q_summed ++ "step" else Q_summed ++ "end"
def sst (r1 r2 : List Row) (L : List Nat) : List Key → Nat → List Key
  | [.inl a, .inl b], c => [.inl (stepR r1 L (a, 0) c).1, .inl (stepR r2 L (b, 0) c).1]
  | k, _ => k
def sbt (r1 r2 : List Row) (L : List Nat) : List Key → Nat → Int
  | [.inl a, .inl b], c => (stepR r1 L (a, 0) c).2 + (stepR r2 L (b, 0) c).2
  | _, _ => 0
def sen (e1 e2 : List Int) : List Key → Int
  | [.inl a, .inl b] => e1.getD a.toNat 0 + e2.getD b.toNat 0
  | _ => 0
def sDm (r1 r2 : List Row) (k : List Key) : Prop := ∃ a b : Int, 0 ≤ a ∧ a < r1.length ∧ 0 ≤ b ∧ b < r2.length ∧ k = [.inl a, .inl b]
theorem step_ok {rs : List Row} {z : Str} (hg : GoodS z.length rs) {n : Int} (n0 : 0 ≤ n) (nl : n < rs.length) {c : Nat} (hc : c ∈ TL.tl z) : 0 ≤ (stepR rs (TL.tl z) (n, 0) c).1 ∧ (stepR rs (TL.tl z) (n, 0) c).1 < rs.length := by
  obtain ⟨h, h', e, a, b⟩ := at_row hg n0 nl (j := (TL.tl z).idxOf c) (by rw [TL.len_tl]; exact idx_lt hc)
  unfold stepR
  simp only [e]
  exact ⟨a, b⟩
theorem sst_dm {r1 r2 : List Row} {z : Str} (g1 : GoodS z.length r1) (g2 : GoodS z.length r2) : ∀ k c, sDm r1 r2 k → c ∈ TL.tl z → sDm r1 r2 (sst r1 r2 (TL.tl z) k c) := by
  rintro k c ⟨a, b, a0, a1, b0, b1, rfl⟩ hc
  obtain ⟨x0, x1⟩ := step_ok g1 a0 a1 hc
  obtain ⟨y0, y1⟩ := step_ok g2 b0 b1 hc
  exact ⟨_, _, x0, x1, y0, y1, rfl⟩
section
variable {P : Program} {w : World} {K : PySem.W.Frag} {mg : Str → Option Value} {base : Heap}
theorem nok_summed_step {C fR fCS B CB fB' : Addr} {fdR : FuncData} {o1 o2 : Addr} {z : Str} {r1 r2 : List Row} {e1 e2 : List Int} {fg c' : Addr} {cl : List (Str × Addr)} {q : Str} (T : TxtK K mg C fCS B CB fB') (mtRun : Meth K C "run" fR) (FR : Fun K "run" "Code.run" s_Code_run fR fdR) (bR : Binds K fdR P_Code_run []) (g1 : GoodS z.length r1) (g2 : GoodS z.length r2) (hz : z.length ≤ 26) :
    NOk P w K mg base CX0 2 fg (NF.of n_summed_step "step" q cl c') P_summed_step R_summed_step (fun ws vs H Q E => ws = [some (.ref o1), some (.ref o2)] ∧ CodeAt K C H o1 z r1 e1 ∧ CodeAt K C H o2 z r2 e2 ∧ spStep2 kdT (sst r1 r2 (TL.tl z)) (sbt r1 r2 (TL.tl z)) (sDm r1 r2) z vs H Q E) := by
  have GR : FnOk P w K mg base CX0 1 fR fdR P_Code_run (spRun K C) := ok_run FR T
  refine nok_of ns_summed_step (fun doc pm ctv us hl => match us, hl with | [_, _], _ => rfl) (fun ws vs H Q E h => ?_) (fun A outer s H vs ws Q E hr h1 h2 h3 h => ?_)
  · obtain ⟨_, _, _, v, k, c, rfl, _⟩ := h
    rfl
  · obtain ⟨rfl, hC1, hC2, v, k, c, rfl, hat, hD, hc, kq⟩ := h
    have hu := hu_of hr
    refine ⟨_, (pss_cons (ps_asg (pe_meth (pv 2) T.cl mtRun GR (hr.mono (by decide)) bR .nil pass0 (pa_cons (pe_ix ix_tup (pv 0) pe_int (fun _ _ => rfl)) (pa_cons (pv 1) pa_nil))) (pg_tup (by rfl) (pgs_cons (pg_name (i := 4) ns_summed_step.nd rfl (Or.inl rfl)) (pgs_cons (pg_name (i := 5) ns_summed_step.nd rfl (Or.inl rfl)) pgs_nil))))
      (pss_cons (ps_asg (pe_meth (pv 3) T.cl mtRun GR (hr.mono (by decide)) bR .nil pass0 (pa_cons (pe_ix ix_tup (pv 0) pe_int (fun _ _ => rfl)) (pa_cons (pv 1) pa_nil))) (pg_tup (by rfl) (pgs_cons (pg_name (i := 6) ns_summed_step.nd rfl (Or.inl rfl)) (pgs_cons (pg_name (i := 7) ns_summed_step.nd rfl (Or.inl rfl)) pgs_nil))))
      (pss_one (ps_ret (pe_tup (pa_cons (pe_tup (pa_cons (pv 4) (pa_cons (pv 6) pa_nil))) (pa_cons (pe_op op_add (pv 5) (pv 7)) pa_nil))))))), ?_⟩
    obtain ⟨a, b, a0, a1, b0, b1, rfl⟩ := hD
    obtain ⟨bb, rfl, hb⟩ := hat
    have hb : H bb = some (.tup [.int a, .int b]) := hb
    obtain ⟨dx, RR, Ev, ho, hR, hE⟩ := id hC1
    have hsg : ∀ x ∈ TL.tl (sg c), x ∈ TL.tl z := fun x hx => by
      rw [sg_tl] at hx
      rw [List.mem_singleton.mp hx]; exact hc
    refine ⟨_, rfl, o1, dx, _, rfl, ho, cf_no _ _ _ (by decide +kernel) (by decide +kernel) (by decide +kernel), _, rfl, bb, _, 0, .int a, rfl, rfl, SqT.of hb, rfl, _, rfl, o1, a, z, sg c, r1, e1, rfl, hC1, g1, hz, hsg, a0, a1, fun t H1 s1 ht => ?_⟩
    rw [sg_tl] at ht
    refine ⟨t, _, rfl, SqT.of ht, rfl, _, _, rfl, _, _, rfl, rfl, ?_⟩
    obtain ⟨dx2, RR2, Ev2, ho2, hR2, hE2⟩ := id (hC2.same s1)
    refine ⟨_, rfl, o2, dx2, _, rfl, ho2, cf_no _ _ _ (by decide +kernel) (by decide +kernel) (by decide +kernel), _, rfl, bb, _, 1, .int b, rfl, rfl, SqT.of (s1 _ _ hb), rfl, _, rfl, o2, b, z, sg c, r2, e2, rfl, hC2.same s1, g2, hz, hsg, b0, b1, fun t2 H2 s2 ht2 => ?_⟩
    rw [sg_tl] at ht2
    refine ⟨t2, _, rfl, SqT.of ht2, rfl, _, _, rfl, _, _, rfl, rfl, ?_⟩
    refine ⟨_, rfl, _, rfl, by show 2 ≤ sizeLine; decide, fun p hp => ⟨_, rfl, _, rfl, _, _, rfl, rfl, by show 2 ≤ sizeLine; decide, fun t3 ht3 => ?_⟩⟩
    exact kq t3 (.ref p) _ (((s1.trans s2).trans (same_new hp)).trans (same_new ht3)) (by rw [upd_same]; rfl) ⟨p, rfl, by rw [upd_ne (ne_of_none upd_same ht3), upd_same]; rfl⟩
theorem nok_summed_end {C fCS B CB fB' : Addr} {o1 o2 : Addr} {z : Str} {r1 r2 : List Row} {e1 e2 : List Int} {fg c' : Addr} {cl : List (Str × Addr)} {q : Str} (T : TxtK K mg C fCS B CB fB') (h1e : e1.length = r1.length) (h2e : e2.length = r2.length) :
    NOk P w K mg base CX0 1 fg (NF.of n_summed_end "end" q cl c') P_summed_end R_summed_end (fun ws vs H Q E => ws = [some (.ref o1), some (.ref o2)] ∧ CodeAt K C H o1 z r1 e1 ∧ CodeAt K C H o2 z r2 e2 ∧ spEnd kdT (sen e1 e2) (sDm r1 r2) vs H Q E) := by
  refine nok_of ns_summed_end (fun doc pm ctv us hl => match us, hl with | [_], _ => rfl) (fun ws vs H Q E h => ?_) (fun A outer s H vs ws Q E hr h1 h2 h3 h => ?_)
  · obtain ⟨_, _, _, v, k, rfl, _⟩ := h
    rfl
  · obtain ⟨rfl, hC1, hC2, v, k, rfl, hat, hD, kq⟩ := h
    have hu := hu_of hr
    refine ⟨_, (pss_one (ps_ret (pe_op op_add (pe_ix ix_tup (pe_fld (pv 1) rfl) (pe_ix ix_tup (pv 0) pe_int (fun _ _ => rfl)) (fun _ _ => rfl)) (pe_ix ix_tup (pe_fld (pv 2) rfl) (pe_ix ix_tup (pv 0) pe_int (fun _ _ => rfl)) (fun _ _ => rfl))))), ?_⟩
    obtain ⟨a, b, a0, a1, b0, b1, rfl⟩ := hD
    obtain ⟨bb, rfl, hb⟩ := hat
    have hb : H bb = some (.tup [.int a, .int b]) := hb
    obtain ⟨dx, RR, Ev, ho, hR, hE⟩ := id hC1
    obtain ⟨dx2, RR2, Ev2, ho2, hR2, hE2⟩ := id hC2
    obtain ⟨ea, exs, rfl, hes, hed⟩ := hE.tupE
    obtain rfl := dpAll_intsE hed
    obtain ⟨ea2, exs2, rfl, hes2, hed2⟩ := hE2.tupE
    obtain rfl := dpAll_intsE hed2
    have hn : e1[a.toNat]? = some (e1.getD a.toNat 0) := by
      rw [List.getD_eq_getElem?_getD, List.getElem?_eq_getElem (by omega)]; rfl
    have hn2 : e2[b.toNat]? = some (e2.getD b.toNat 0) := by
      rw [List.getD_eq_getElem?_getD, List.getElem?_eq_getElem (by omega)]; rfl
    refine ⟨_, rfl, o1, C, dx, _, _, rfl, ho, T.cl, T.nE, cf_ends _ _ _, _, rfl, bb, _, 0, .int a, rfl, rfl, SqT.of hb, rfl, ea, _, a, .int (e1.getD a.toNat 0), rfl, rfl, hes, at_of' (show a = ((a.toNat : Nat) : Int) by omega) (by rw [List.getElem?_map, hn]; rfl),
      _, rfl, o2, C, dx2, _, _, rfl, ho2, T.cl, T.nE, cf_ends _ _ _, _, rfl, bb, _, 1, .int b, rfl, rfl, SqT.of hb, rfl, ea2, _, b, .int (e2.getD b.toNat 0), rfl, rfl, hes2, at_of' (show b = ((b.toNat : Nat) : Int) by omega) (by rw [List.getElem?_map, hn2]; rfl), _, _, rfl, rfl, ?_⟩
    exact kq H (Same.refl H)
/-- a plain error: nothing else changed -/
def spSummed (K : PySem.W.Frag) (NT : List NTab) (C CT CU : Addr) : Sp := fun vs H Q E => ∃ (o1 o2 : Addr) (z1 z2 : Str) (r1 r2 : List Row) (e1 e2 : List Int), vs = [.ref o1, .ref o2] ∧ CodeAt K C H o1 z1 r1 e1 ∧ CodeAt K C H o2 z2 r2 e2 ∧ z1.length ≤ 3 ∧ TabsN NT H ∧
  (z1 ≠ z2 → ∀ H', Same H H' → E (.ref CU) none H') ∧
  (z1 = z2 → GoodS z1.length r1 ∧ GoodS z1.length r2 ∧ e1.length = r1.length ∧ e2.length = r2.length ∧ 0 < r1.length ∧ 0 < r2.length ∧
    Made K NT C z1 (sst r1 r2 (TL.tl z1)) (sbt r1 r2 (TL.tl z1)) (sen e1 e2) [Sum.inl 0, Sum.inl 0] H Q ∧
    (40 < (turns (sst r1 r2 (TL.tl z1)) (TL.tl z1) [Sum.inl 0, Sum.inl 0] 40).1.length → ∀ d H', RaisedT NT H H' d "what" (.str "states") → E (.ref CT) (some d) H'))
theorem ok_summed {NT : List NTab} {f fM fX fI fR C CT CU fT fCS B CB fB' cM pM cT pT : Addr} {fd fdM fdX fdT fdI fdR fdCS fdB : FuncData} (F : FunC K "summed" "summed" s_summed f fd cT) (T1 : TxtN2 base mg NT cT pT nm_summed) (mmade : mg "made" = some (.ref fM)) (kmade : PySem.W.keepIn K (.ref fM) = true)
    (TU : PlainE K mg "Unlike" CU [.type "ValueError", .type "Exception", .type "BaseException", .type "object"] "ValueError.__new__")
    (mtRun : Meth K C "run" fR) (FR : Fun K "run" "Code.run" s_Code_run fR fdR) (bR : Binds K fdR P_Code_run [])
    (FM : FunC K "made" "made" s_made fM fdM cM) (bM : Binds K fdM P_made []) (T : TxtM K mg base NT C fCS B CB fB' fX cM pM) (TE : TxtE K mg B CT fT)
    (FX : Fun K "explored" "explored" s_explored fX fdX) (bX : Binds K fdX P_explored []) (FT : Fun K "__init__" "TooMany.__init__" s_TooMany___init__ fT fdT) (bT : Binds K fdT P_TooMany___init__ [])
    (MCode : Mk K C fI) (FI : Fun K "__init__" "Code.__init__" s_Code___init__ fI fdI) (bCode : Binds K fdI P_Code___init__ []) (FCS : Fun K "check_states" "check_states" s_check_states fCS fdCS) (bcheck_states : Binds K fdCS P_check_states [])
    (FB' : Fun K "__init__" "BadCode.__init__" s_BadCode___init__ fB' fdB) (bB' : Binds K fdB P_BadCode___init__ []) : FnOk P w K mg base (L2.CX P w) 11 f fd P_summed (spSummed K NT C CT CU) := by
  have GM : FnOk P w K mg base (L2.CX P w) 10 fM fdM P_made (spMade P w K mg base NT C CT kdT) := ok_made kdT FM T TE FX bX FT bT MCode FI bCode FCS bcheck_states FB' bB'
  refine F.okX sc_summed (fun vs H Q E h => ?_) (fun A outer s H vs Q E hr h => ?_)
  · obtain ⟨o1, o2, z1, z2, r1, r2, e1, e2, rfl, _⟩ := h
    rfl
  · obtain ⟨o1, o2, z1, z2, r1, r2, e1, e2, rfl, hC1, hC2, hz, hT, ku, kq⟩ := h
    have hu := hu_of hr
    have passL : Passes (L2.CX P w) (cxOf (L2.CX P w) P w K mg base N_summed "summed" (defScope s_summed) f (.ref cT) A outer s H E) E := passes_call (takes_of rfl rfl rfl rfl) (fun _ _ _ _ h => h)
    refine ⟨_, (pss_cons (ps_if (pt_cmpR op_ne (pe_fld (pv 0) rfl) (pe_fld (pv 1) rfl) (nomark _)) (pss_one (ps_raise rfl (takes_of rfl rfl rfl rfl) (pmk_plain PySem.F.excBase_ValueError TU (by rfl)))) pss_nil)
      (pss_cons (ps_ndefMS (i := 2) (st := n_summed_step) rfl T1.tb rfl T1.tm rfl T1.tu (ndef_free nd_summed_step) rfl rfl rfl sc_summed.nd rfl (Or.inl rfl) (Or.inr rfl))
      (pss_cons (ps_ndefMS (i := 3) (st := n_summed_end) rfl T1.tb rfl T1.tm rfl T1.tu (ndef_free nd_summed_end) rfl rfl rfl sc_summed.nd rfl (Or.inl rfl) (Or.inr rfl))
      (pss_one (ps_ret (pe_callC cxok GM (hr.mono (by decide)) (fun _ => rfl) (by rfl) mmade kmade bM .nil passL (pa_cons (pe_fld (pv 0) rfl) (pa_cons (pe_tup (pa_cons pe_int (pa_cons pe_int pa_nil))) (pa_cons (pv 2) (pa_cons (pv 3) pa_nil)))))))))), ?_⟩
    obtain ⟨dx, RR, Ev, ho, hR, hE⟩ := id hC1
    obtain ⟨dx2, RR2, Ev2, ho2, hR2, hE2⟩ := id hC2
    refine ⟨_, rfl, o1, C, dx, _, _, rfl, ho, T.cl, T.nL, cf_letters _ _ _, _, rfl, o2, C, dx2, _, _, rfl, ho2, T.cl, T.nL, cf_letters _ _ _, rfl, _, rfl, ?_⟩
    by_cases hzz : z1 = z2
    · subst hzz
      obtain ⟨g1, g2, h1e, h2e, l1, l2, kq, kt⟩ := kq rfl
      rw [decide_eq_true rfl]
      show (if false = true then _ else _)
      rw [if_neg (by decide)]
      refine ⟨hT, fun fg c' H1 eN back T1' nf hfg hc => ?_⟩
      have st1 : SameT NT H H1 := ⟨eN, back, T1'⟩
      refine ⟨T1', fun fe ce H2 eN2 back2 T2' nf2 hfe hce => ?_⟩
      have st2 : SameT NT H1 H2 := ⟨eN2, back2, T2'⟩
      have st12 := st1.trans st2
      have hD1 : CodeAt K C H2 o1 z1 r1 e1 := stab_code H H2 hC1 st12.ext
      have hD2 : CodeAt K C H2 o2 z1 r2 e2 := stab_code H H2 hC2 st12.ext
      have hfg2 := st2.ext _ _ hfg fnO_ne
      have hc2 := st2.ext _ _ hc (fun _ z => nomatch z)
      obtain ⟨dx3, RR3, Ev3, ho3, hR3, hE3⟩ := id hD1
      refine ⟨_, rfl, o1, C, dx3, _, _, rfl, ho3, T.cl, T.nL, cf_letters _ _ _, by show 2 ≤ sizeLine; decide, fun p hp => ⟨_, rfl, _, rfl, fun cs hcap hcn => ?_⟩⟩
      have st3 : SameT NT H (L2.upd H2 p (.tup [.int 0, .int 0])) := st12.trans (SameT.of (same_new hp) T2')
      have hfg3 := (same_new (o := .tup [.int 0, .int 0]) hp) _ _ hfg2
      have hc3 := (same_new (o := .tup [.int 0, .int 0]) hp) _ _ hc2
      have hfe3 := (same_new (o := .tup [.int 0, .int 0]) hp) _ _ hfe
      have hce3 := (same_new (o := .tup [.int 0, .int 0]) hp) _ _ hce
      have hp3 : (L2.upd H2 p (.tup [.int 0, .int 0])) p = some (.tup [.int 0, .int 0]) := upd_same
      have hD13 := hD1.same (same_new (o := .tup [.int 0, .int 0]) hp)
      have hD23 := hD2.same (same_new (o := .tup [.int 0, .int 0]) hp)
      generalize L2.upd H2 p (.tup [.int 0, .int 0]) = H3 at hcn st3 hfg3 hc3 hfe3 hce3 hp3 hD13 hD23 ⊢
      have hcapS := cap_of (scope := C8.fnScope n_summed_step) (fr := R_summed_step) (js := [0, 1]) hcap (cells_free nc_summed_step) (ndef_fr nd_summed_step) rfl
      have hcapE := cap_of (scope := C8.fnScope n_summed_end) (fr := R_summed_end) (js := [0, 1]) hcap (cells_free nc_summed_end) (ndef_fr nd_summed_end) rfl
      have FG := (fv_of_nok cxok0 (nok_summed_step (P := P) (w := w) (mg := mg) (base := base) (fg := fg) (c' := c') (cl := _) (q := Q_summed ++ "step") (o1 := o1) (o2 := o2) (e1 := e1) (e2 := e2) T.toTxtK mtRun FR bR g1 g2 (by omega)) hcapS).mono (by decide : 2 ≤ 6)
      have FE := (fv_of_nok cxok0 (nok_summed_end (P := P) (w := w) (mg := mg) (base := base) (fg := fe) (c' := ce) (cl := _) (q := Q_summed ++ "end") (o1 := o1) (o2 := o2) (z := z1) T.toTxtK h1e h2e) hcapE).mono (by decide : 1 ≤ 6)
      have FG2 := FG.imp (S' := fun H => HeldF fg (NF.of n_summed_step "step" (Q_summed ++ "step") (cloFrom (cxOf (L2.CX P w) P w K mg base N_summed "summed" (defScope s_summed) f (.ref cT) A outer s H E).env.cells (C8.fnScope n_summed_step).names []) c') cs H ∧ CodeAt K C H o1 z1 r1 e1 ∧ CodeAt K C H o2 z1 r2 e2) (sp' := spStep2 kdT (sst r1 r2 (TL.tl z1)) (sbt r1 r2 (TL.tl z1)) (sDm r1 r2) z1)
        (fun H h => h.1) (fun vs H Q E h q => ⟨rfl, h.2.1.hid h.1.cells, h.2.2.hid h.1.cells, step2_hid h.1.cells q⟩)
      have FE2 := FE.imp (S' := fun H => HeldF fe (NF.of n_summed_end "end" (Q_summed ++ "end") (cloFrom (cxOf (L2.CX P w) P w K mg base N_summed "summed" (defScope s_summed) f (.ref cT) A outer s H E).env.cells (C8.fnScope n_summed_end).names []) ce) cs H ∧ CodeAt K C H o1 z1 r1 e1 ∧ CodeAt K C H o2 z1 r2 e2) (sp' := spEnd kdT (sen e1 e2) (sDm r1 r2))
        (fun H h => h.1) (fun vs H Q E h q => ⟨rfl, h.2.1.hid h.1.cells, h.2.2.hid h.1.cells, end_hid h.1.cells q⟩)
      refine ⟨z1, .ref p, fg, fe, [Sum.inl 0, Sum.inl 0], sst r1 r2 (TL.tl z1), _, _, sDm r1 r2, _, _, rfl, ⟨p, rfl, shw_keep hcn hp3⟩, ⟨0, 0, Int.le_refl _, by omega, Int.le_refl _, by omega, rfl⟩, sst_dm g1 g2, ⟨⟨shw_keep hcn hfg3, shw_keep hcn hc3, held_shw⟩, hD13.shw hcn, hD23.shw hcn⟩, ⟨⟨shw_keep hcn hfe3, shw_keep hcn hce3, held_shw⟩, hD13.shw hcn, hD23.shw hcn⟩, (stab_heldF _ _ _).and (stab_code.and stab_code), (stab_heldF _ _ _).and (stab_code.and stab_code), FG2, FE2, by omega, (SameT.of (same_shw hcn) st3.tab).tab, fun hle o3 H5 s5 hC5 => ?_, fun hgt d H5 hr5 => ?_⟩
      · obtain ⟨hh, s4⟩ := sameT_hid hcap.data hcn s5
        exact ⟨hh, kq o3 _ (st3.trans s4) (hC5.hid hh) hle⟩
      · obtain ⟨r0, r1', r2'⟩ := hr5
        obtain ⟨hh, s4⟩ := sameT_hid hcap.data hcn r2'
        have hout : cs.lookup d = none := by
          cases q : cs.lookup d with
          | none => rfl
          | some y => rw [shw_in q] at r0; cases r0
        have h30 : H3 d = none := by rw [shw_out hout] at r0; exact r0
        exact ⟨hh, kt hgt d _ ⟨st3.back d h30, by rw [hid_out hout]; exact r1', st3.trans s4⟩⟩
    · rw [decide_eq_false fun e => hzz (V.str.inj e)]
      show (if true = true then _ else _)
      rw [if_pos rfl]
      exact ku hzz H (Same.refl H)
end
end Vf
set_option Elab.async false
set_option linter.all false
set_option maxRecDepth 100000
set_option maxHeartbeats 4000000
namespace Vf
open PySem L2 PyProof.Rows
structure TxtMC (K : PySem.W.Frag) (mg : Str → Option Value) (C : Addr) : Prop where
  mgCode : mg "Code" = some (.ref C)
theorem Good.all {m : Nat} {rs : List Row} {es : List Int} (g : Good m rs es) : AllOk m rs es := by
  have hp := g.pos
  have hl := g.len
  refine ⟨fun j hj => ?_, by omega, by omega⟩
  obtain ⟨h1, h2⟩ := g.row rs[j] (List.getElem_mem hj)
  rintro (h | h | ⟨gb, hgb, h⟩)
  · exact h h1
  · omega
  · obtain ⟨g0, g1, _⟩ := h2 gb hgb
    exact h ⟨g0, g1⟩
section
variable {P : Program} {w : World} {K : PySem.W.Frag} {mg : Str → Option Value} {base : Heap}
/-- Code(..) out of drawn data -/
def spMadeC (K : PySem.W.Frag) (C : Addr) : Sp := fun vs H Q _ => ∃ (t : V) (z : Str) (rs : List Row) (es : List Int), vs = [t] ∧ Dp K H t (codeD z rs es) ∧ Good z.length rs es ∧ z.length ≤ 26 ∧ rs.length ≤ 100 ∧
  ∀ (o : Addr) (H' : Hp), CodeAt K C H' o z rs es → Same H H' → Q (.ref o) H'
abbrev s__law_made_code : Stmt := top 34
abbrev N__law_made_code : List Str := ["_law_code_here"]
abbrev P__law_made_code : List Str := ["_law_code_here"]
theorem sc__law_made_code : FnScope N__law_made_code P__law_made_code (defScope s__law_made_code) := ⟨rfl, rfl, rfl, by decide +kernel, rfl, by decide +kernel, by decide +kernel⟩

theorem ok_madeC {f fI C fCS B CB fB' : Addr} {fd fdI fdCS fdB : FuncData} (F : Fun K "_law_made_code" "_law_made_code" s__law_made_code f fd) (T : TxtK K mg C fCS B CB fB')
    (MCode : Mk K C fI) (FI : Fun K "__init__" "Code.__init__" s_Code___init__ fI fdI) (bCode : Binds K fdI P_Code___init__ []) (FCS : Fun K "check_states" "check_states" s_check_states fCS fdCS) (bcheck_states : Binds K fdCS P_check_states [])
    (FB' : Fun K "__init__" "BadCode.__init__" s_BadCode___init__ fB' fdB) (bB' : Binds K fdB P_BadCode___init__ []) : FnOk P w K mg base (L2.CX P w) 6 f fd P__law_made_code (spMadeC K C) := by
  have GCode : FnOk P w K mg base (L2.CX P w) 4 fI fdI P_Code___init__ (spInit K C CB) := ok_init FI T FCS bcheck_states FB' bB'
  refine F.okX sc__law_made_code (fun vs H Q E h => ?_) (fun cdv A outer s H vs Q E hr h => ?_)
  · obtain ⟨t, z, rs, es, rfl, _⟩ := h
    rfl
  · obtain ⟨t, z, rs, es, rfl, hD, hg, hz, hl, k⟩ := h
    have passL : Passes (L2.CX P w) (cxOf (L2.CX P w) P w K mg base N__law_made_code "_law_made_code" (defScope s__law_made_code) f cdv A outer s H E) E := passes_call (takes_of rfl rfl rfl rfl) (fun _ _ _ _ h => h)
    refine ⟨_, (pss_one (ps_ret (pe_make MCode GCode (hr.mono (by decide)) (by rfl) T.mgCode bCode .nil passL (pa_cons (pe_ix ix_tup (pv 0) pe_int (fun _ _ => rfl)) (pa_cons (pe_ix ix_tup (pv 0) pe_int (fun _ _ => rfl)) (pa_cons (pe_ix ix_tup (pv 0) pe_int (fun _ _ => rfl)) pa_nil)))))), ?_⟩
    obtain ⟨a, xs, rfl, ha, hx⟩ := hD.tupE
    cases hx with
    | cons h1 hx =>
      obtain rfl := h1.strE
      cases hx with
      | cons h2 hx =>
        cases hx with
        | cons h3 hx =>
          cases hx
          refine ⟨_, rfl, a, _, 0, _, rfl, rfl, ha, atI_nat (j := 0) rfl, _, rfl, a, _, 1, _, rfl, rfl, ha, atI_nat (j := 1) rfl, _, rfl, a, _, 2, _, rfl, rfl, ha, atI_nat (j := 2) rfl, fun x dx hx hdx ne => ?_⟩
          have hx' : (L2.upd H dx (.own x)) x = none := by rw [upd_ne ne.symm]; exact hx
          have s6 : Same H (L2.upd (L2.upd H dx (.own x)) x (.ins C dx [])) := (same_new hdx).trans (same_new hx')
          have hok : AllOk z.length rs es := hg.all
          refine ⟨x, dx, z, _, _, rs, es, rfl, upd_same, Or.inl (h2.mv (Kl.same s6)), Or.inl (h3.mv (Kl.same s6)), hz, hl, by rw [hg.len]; exact hl, fun r hr => ?_, fun _ H7 hC7 k7 => ⟨rfl, k x H7 hC7 fun b u e => k7 b u (s6 _ _ e) (ne_of_none e hx)⟩, fun i hb => absurd hb (ok_not_bad hok)⟩
          have := (hg.row r hr).1
          omega
/-- the law's own walk -/
def spWalk (K : PySem.W.Frag) : Sp := fun vs H Q _ => ∃ (t : V) (s : Int) (z y : Str) (rs : List Row) (es : List Int), vs = [t, .int s, .str y] ∧ Dp K H t (codeD z rs es) ∧ GoodS z.length rs ∧ (∀ c ∈ TL.tl y, c ∈ TL.tl z) ∧ 0 ≤ s ∧ s < rs.length ∧
  ∀ (t : Addr) (H' : Hp), Same H H' → H' t = some (.tup [.int (walkR rs (TL.tl z) s (TL.tl y)).1, .int (walkR rs (TL.tl z) s (TL.tl y)).2]) → Q (.ref t) H'
abbrev s__law_walk : Stmt := top 35
abbrev N__law_walk : List Str := ["_law_code_here", "_law_state", "_law_word", "_law_spent", "_law_letter", "_law_bits_here"]
abbrev P__law_walk : List Str := ["_law_code_here", "_law_state", "_law_word"]
theorem sc__law_walk : FnScope N__law_walk P__law_walk (defScope s__law_walk) := ⟨rfl, rfl, rfl, by decide +kernel, rfl, by decide +kernel, by decide +kernel⟩

theorem ok_walk {f : Addr} {fd : FuncData} (F : Fun K "_law_walk" "_law_walk" s__law_walk f fd) : FnOk P w K mg base CX0 1 f fd P__law_walk (spWalk K) := by
  refine F.ok sc__law_walk (fun vs H Q E h => ?_) (fun cdv A outer s H vs Q E hr h => ?_)
  · obtain ⟨o, s, z, y, rs, es, rfl, _⟩ := h
    rfl
  · obtain ⟨o, s0, z, y, rs, es, rfl, hD, hg, hy, h0, h1, k⟩ := h
    refine ⟨_, (pss_cons (ps_set (i := 3) sc__law_walk.nd rfl (Or.inl rfl) pe_int)
      (pss_cons (ps_for PassesOwn.never rfl (pi_str (pv 2)) (pg_name (i := 4) sc__law_walk.nd rfl (Or.inl rfl)) (pss_cons (ps_asg (pe_ix ix_list (pe_ix ix_list (pe_ix ix_tup (pv 0) pe_int (fun _ _ => rfl)) (pv 1) (fun _ _ => rfl)) (pe_m1 PySem.F.slot_str_index PySem.F.type_str_index mt_sindex (pe_ix ix_tup (pv 0) pe_int (fun _ _ => rfl)) (pv 4)) (fun _ _ => rfl)) (pg_tup (by rfl) (pgs_cons (pg_name (i := 1) sc__law_walk.nd rfl (Or.inl rfl)) (pgs_cons (pg_name (i := 5) sc__law_walk.nd rfl (Or.inl rfl)) pgs_nil))))
      (pss_one (ps_set (i := 3) sc__law_walk.nd rfl (Or.inl rfl) (pe_op op_add (pv 3) (pv 5))))))
      (pss_one (ps_ret (pe_tup (pa_cons (pv 1) (pa_cons (pv 3) pa_nil))))))), ?_⟩
    obtain ⟨a, xs0, rfl, ha, hx⟩ := hD.tupE
    have lz : (TL.tl z).length = z.length := (TL.len_tl z).symm
    cases hx with
    | cons g1 hx =>
      obtain rfl := g1.strE
      cases hx with
      | cons hR hx =>
        cases hx with
        | cons hE hx =>
          cases hx
          obtain ⟨ra, xs, rfl, hR1, hR2⟩ := hR.listE
          refine ⟨_, rfl, y, rfl, for_it walk_strS (fun i σ H1 => ∃ v4 v5 : Option V, σ = [some (.ref a), some (.int (walkR rs (TL.tl z) s0 ((TL.tl y).take i)).1), some (.str y), some (.int (walkR rs (TL.tl z) s0 ((TL.tl y).take i)).2), v4, v5] ∧ H1 = H)
            ⟨none, none, rfl, rfl⟩ (fun _ _ _ _ _ => trivial) ?_ ?_⟩
          · rintro i x σ H2 H1 hi ⟨v4, v5, rfl, rfl⟩ ⟨rfl, c, hc, rfl⟩
            obtain ⟨hlt, he⟩ := List.getElem?_eq_some_iff.mp hc
            obtain ⟨a0, a1⟩ := walkR_ok hg lz h0 h1 hy i (Nat.le_of_lt hlt)
            have hcz : c ∈ TL.tl z := hy c (by rw [← he]; exact List.getElem_mem hlt)
            have hidx : (TL.tl z).idxOf c < z.length := by rw [← lz]; exact idx_lt hcz
            obtain ⟨g1, g2, ge, gb0, gb1⟩ := at_row hg a0 a1 hidx
            rw [walkR_more hlt, he]
            revert a0 a1 g1 g2 ge gb0 gb1
            generalize walkR rs (TL.tl z) s0 ((TL.tl y).take i) = sp
            intro a0 a1 g1 g2 ge gb0 gb1
            obtain ⟨v, hv, hrow⟩ := hR2.get (i := sp.1.toNat) (d := rowD rs[sp.1.toNat]) (by rw [List.getElem?_map, List.getElem?_eq_getElem g1]; rfl)
            obtain ⟨w5, ts, rfl, hw1, hw2⟩ := hrow.listE
            obtain ⟨v', hv', htup⟩ := hw2.get (i := (TL.tl z).idxOf c) (d := tupD rs[sp.1.toNat][(TL.tl z).idxOf c]) (by rw [List.getElem?_map, List.getElem?_eq_getElem g2]; rfl)
            obtain ⟨tt, us, rfl, ht1, ht2⟩ := htup.tupE
            obtain ⟨rest, hocc⟩ := occ_sg hcz
            cases ht2 with
            | cons hA hB =>
              obtain rfl := hA.intE
              cases hB with
              | cons hB hC =>
                obtain rfl := hB.intE
                cases hC
                refine ⟨_, rfl, a, _, 1, _, rfl, rfl, ha, atI_nat (j := 1) rfl, _, rfl, ra, xs, sp.1, _, rfl, rfl, hR1, at_of (Int.toNat_of_nonneg a0).symm hv, ?_⟩
                refine ⟨_, rfl, a, _, 0, _, rfl, rfl, ha, atI_nat (j := 0) rfl, ⟨_, rfl⟩, _, rfl, z, sg c, _, rest, rfl, rfl, hocc, ?_⟩
                refine ⟨w5, ts, _, _, rfl, rfl, hw1, at_of rfl hv', ?_⟩
                refine ⟨tt, _, rfl, ht1, rfl, _, _, rfl, _, _, rfl, rfl, ?_⟩
                refine ⟨_, rfl, _, rfl, _, _, rfl, rfl, some (.str (sg c)), some (.int (rs[sp.1.toNat][(TL.tl z).idxOf c]).2), ?_, rfl⟩
                have e1 : stepR rs (TL.tl z) sp c = ((rs[sp.1.toNat][(TL.tl z).idxOf c]).1, sp.2 + (rs[sp.1.toNat][(TL.tl z).idxOf c]).2) := by
                  unfold stepR
                  simp only [ge]
                rw [e1]
                rfl
          · rintro σ H1 ⟨v4, v5, rfl, rfl⟩
            refine ⟨_, rfl, _, rfl, by show 2 ≤ sizeLine; decide, fun t ht => k t _ (same_new ht) ?_⟩
            rw [upd_same, TL.len_tl, List.take_length]
def spLLen (K : PySem.W.Frag) : Sp := fun vs H Q _ => ∃ (t : V) (z y : Str) (rs : List Row) (es : List Int), vs = [t, .str y] ∧ Dp K H t (codeD z rs es) ∧ GoodS z.length rs ∧ es.length = rs.length ∧ 0 < rs.length ∧ (∀ c ∈ TL.tl y, c ∈ TL.tl z) ∧
  ∀ H', Same H H' → Q (.int (lenR rs es (TL.tl z) (TL.tl y))) H'
abbrev s__law_length : Stmt := top 36
abbrev N__law_length : List Str := ["_law_code_here", "_law_column_here", "_law_state", "_law_spent"]
abbrev P__law_length : List Str := ["_law_code_here", "_law_column_here"]
theorem sc__law_length : FnScope N__law_length P__law_length (defScope s__law_length) := ⟨rfl, rfl, rfl, by decide +kernel, rfl, by decide +kernel, by decide +kernel⟩

theorem ok_llen {f fW : Addr} {fd fdW : FuncData} (F : Fun K "_law_length" "_law_length" s__law_length f fd) (m_law_walk : mg "_law_walk" = some (.ref fW)) (k_law_walk : PySem.W.keepIn K (.ref fW) = true) (FW : Fun K "_law_walk" "_law_walk" s__law_walk fW fdW) (b_law_walk : Binds K fdW P__law_walk []) : FnOk P w K mg base CX0 2 f fd P__law_length (spLLen K) := by
  have G_law_walk : FnOk P w K mg base CX0 1 fW fdW P__law_walk (spWalk K) := ok_walk FW
  refine F.ok sc__law_length (fun vs H Q E h => ?_) (fun cdv A outer s H vs Q E hr h => ?_)
  · obtain ⟨o, z, y, rs, es, rfl, _⟩ := h
    rfl
  · obtain ⟨o, z, y, rs, es, rfl, hD, hg, hl, hp, hy, k⟩ := h
    refine ⟨_, (pss_cons (ps_asg (pe_call G_law_walk (hr.mono (by decide)) (by rfl) m_law_walk k_law_walk b_law_walk .nil pass0 (pa_cons (pv 0) (pa_cons pe_int (pa_cons (pv 1) pa_nil)))) (pg_tup (by rfl) (pgs_cons (pg_name (i := 2) sc__law_length.nd rfl (Or.inl rfl)) (pgs_cons (pg_name (i := 3) sc__law_length.nd rfl (Or.inl rfl)) pgs_nil))))
      (pss_one (ps_ret (pe_op op_add (pv 3) (pe_ix ix_list (pe_ix ix_tup (pv 0) pe_int (fun _ _ => rfl)) (pv 2) (fun _ _ => rfl)))))), ?_⟩
    refine ⟨_, rfl, _, rfl, o, 0, z, y, rs, es, rfl, hD, hg, hy, by decide, by omega, fun t H2 s2 ht => ?_⟩
    obtain ⟨w0, w1⟩ := walkR_ok hg (TL.len_tl z).symm (s := 0) (by decide) (by omega) hy (TL.tl y).length (Nat.le_refl _)
    rw [List.take_length] at w0 w1
    have he : (walkR rs (TL.tl z) 0 (TL.tl y)).1.toNat < es.length := by omega
    obtain ⟨a, xs, rfl, ha, hx⟩ := (hD.mv (Kl.same s2)).tupE
    cases hx with
    | cons h1 hx =>
      cases hx with
      | cons h2 hx =>
        cases hx with
        | cons h3 hx =>
          cases hx
          obtain ⟨ea, ys, rfl, hE1, hE2⟩ := h3.listE
          obtain rfl := dpAll_intsE hE2
          refine ⟨t, _, rfl, SqT.of ht, rfl, _, _, rfl, _, _, rfl, rfl, ?_⟩
          refine ⟨_, rfl, _, rfl, a, _, 2, _, rfl, rfl, ha, atI_nat (j := 2) rfl, _, rfl, ea, _, _, _, rfl, rfl, hE1, at_of (Int.toNat_of_nonneg w0).symm (by rw [List.getElem?_map, List.getElem?_eq_getElem he]; rfl), _, _, rfl, rfl, ?_⟩
          have e : lenR rs es (TL.tl z) (TL.tl y) = (walkR rs (TL.tl z) 0 (TL.tl y)).2 + es[(walkR rs (TL.tl z) 0 (TL.tl y)).1.toNat] := by
            unfold lenR
            rw [List.getD_eq_getElem?_getD, List.getElem?_eq_getElem he]
            rfl
          have := k H2 s2
          rw [e] at this
          exact this
end
end Vf
set_option Elab.async false
set_option linter.all false
set_option maxRecDepth 100000
set_option maxHeartbeats 4000000
namespace Vf
open PySem L2 PyProof.Rows
section
variable {P : Program} {w : World} {K : PySem.W.Frag} {mg : Str → Option Value} {base : Heap}
/-- the pick too -/
structure TxtP (K : PySem.W.Frag) (mg : Str → Option Value) (fD fP : Addr) : Prop extends TxtD K mg fD where
  m_law_pick : mg "_law_pick" = some (.ref fP)
  k_law_pick : PySem.W.keepIn K (.ref fP) = true
abbrev s__law_letters : Stmt := top 31
abbrev N__law_letters : List Str := ["_law_pen_here", "_law_many", "_law_left", "_law_found", "_law_turn", "_law_at"]
abbrev P__law_letters : List Str := ["_law_pen_here", "_law_many"]
theorem sc__law_letters : FnScope N__law_letters P__law_letters (defScope s__law_letters) := ⟨rfl, rfl, rfl, by decide +kernel, rfl, by decide +kernel, by decide +kernel⟩

theorem ok_letters {f fD : Addr} {fd fdD : FuncData} (F : Fun K "_law_letters" "_law_letters" s__law_letters f fd) (T : TxtD K mg fD) (FD : Fun K "_law_draw" "_law_draw" s__law_draw fD fdD) (b_law_draw : Binds K fdD P__law_draw []) : FnOk P w K mg base CX0 2 f fd P__law_letters spLetters := by
  have G_law_draw : FnOk P w K mg base CX0 1 fD fdD P__law_draw spDraw := ok_draw FD T.toTxtA
  refine F.ok sc__law_letters (fun vs H Q E h => ?_) (fun cdv A outer s H vs Q E hr h => ?_)
  · obtain ⟨p, c, m, n, rfl, _⟩ := h
    rfl
  · obtain ⟨p, c, m, n, rfl, hp, hn, hm, k⟩ := h
    refine ⟨_, (pss_cons (ps_par (i := 2) (j := 3) (by rfl) sc__law_letters.nd rfl rfl (by decide) rfl rfl (pa_cons pe_str (pa_cons (pe_lst pa_nil) pa_nil)) (by rfl))
      (pss_cons (ps_for PassesOwn.never rfl (pi_range1 (by rfl) T.range (pa_cons (pv 1) pa_nil)) (pg_name (i := 4) sc__law_letters.nd rfl (Or.inl rfl)) (pss_cons (ps_set (i := 5) sc__law_letters.nd rfl (Or.inl rfl) (pe_call G_law_draw (hr.mono (by decide)) (by rfl) T.m_law_draw T.k_law_draw b_law_draw .nil pass0 (pa_cons (pv 0) (pa_cons (pe_callB call_len (by rfl) T.len PySem.boot_len (pa_cons (pv 2) pa_nil)) pa_nil))))
      (pss_cons (ps_set (i := 3) sc__law_letters.nd rfl (Or.inl rfl) (pe_op op_cat (pv 3) (pe_lst (pa_cons (pe_ix ix_str (pv 2) (pv 5) (fun _ _ => rfl)) pa_nil))))
      (pss_one (ps_set (i := 2) sc__law_letters.nd rfl (Or.inl rfl) (pe_op op_add_str (pe_slice sl_str (pv 2) po_none (po_some (pv 5))) (pe_slice sl_str (pv 2) (po_some (pe_op op_add (pv 5) pe_int)) po_none)))))))
      (pss_one (ps_ret (pe_join pe_str (pe_callB cr_sortedS (by rfl) T.sorted boot_sorted (pa_cons (pv 3) pa_nil))))))), ?_⟩
    refine ⟨by show 0 ≤ sizeLine; decide, fun F0 hF => ⟨_, _, rfl, ?_⟩⟩
    have hFp : F0 ≠ p := by
      obtain ⟨kvs, hd⟩ := hp.dk
      exact (ne_of_none hd hF).symm
    refine ⟨_, rfl, (m : Int), rfl, by omega, by omega, for_range (n := m) (fun i σ H1 => ∃ (F1 : Addr) (L : Str) (fs : List Nat) (v4 v5 : Option V), σ = [some (.ref p), some (.int m), some (.str L), some (.ref F1), v4, v5] ∧
      H1 F1 = some (.lst ((fs.map sg).map V.str)) ∧ fs.length = i ∧ (fs ++ TL.tl L).Perm alpha ∧ Pen H1 p c (n + i) ∧ Kp p H H1)
      ⟨F0, _, [], none, none, rfl, upd_same, rfl, List.Perm.refl _, hp.same (same_new hF), Kp.of (same_new hF)⟩ ?_ ?_⟩
    · rintro i σ H1 hi ⟨F1, L, fs, v4, v5, rfl, hF1, hlen, hperm, hp1, kk⟩
      have hL : L.length = 26 - i := by
        have := hperm.length_eq
        rw [List.length_append, alpha_len, ← TL.len_tl] at this
        omega
      have hLz : L.length ≤ sizeLine := Nat.le_of_lt (small1000 (by omega))
      refine ⟨_, rfl, _, rfl, _, _, rfl, ⟨hLz, rfl⟩, p, c, _, n + i, rfl, hp1, by omega, by omega, by omega, fun d H2 d0 d1 hp2 kk2 => ?_⟩
      have hj : d.toNat < (TL.tl L).length := by rw [← TL.len_tl]; omega
      have hF2 : H2 F1 = some (.lst ((fs.map sg).map V.str)) := by
        obtain ⟨kvs, hd⟩ := hp1.dk
        exact kk2 _ _ hF1 (ne_of hF1 hd (by intro z; cases z))
      have ed : d = (d.toNat : Int) := (Int.toNat_of_nonneg d0).symm
      refine ⟨_, rfl, _, rfl, _, rfl, L, d, _, rfl, rfl, hLz, at_of' ed (List.getElem?_eq_getElem hj), (by show 1 ≤ sizeLine; decide), fun q hq => ?_⟩
      have s2 : Same H2 (L2.upd H2 q (.lst [V.str (sg (TL.tl L)[d.toNat])])) := same_new hq
      refine ⟨F1, q, _, _, rfl, rfl, s2 _ _ hF2, upd_same, (by rw [List.length_map, List.length_map]; show fs.length + 1 ≤ sizeLine; exact Nat.le_of_lt (small1000 (by omega))), fun r hr2 => ?_⟩
      have s3 : Same H2 (L2.upd (L2.upd H2 q (.lst [V.str (sg (TL.tl L)[d.toNat])])) r (.lst ((fs.map sg).map V.str ++ [V.str (sg (TL.tl L)[d.toNat])]))) := s2.trans (same_new hr2)
      -- left = left[:at] + left[at + 1:]
      have hjl : d.toNat < L.length := by omega
      have t1 : TL.tl (cutS L none (some d)) = (TL.tl L).take d.toNat := by rw [ed]; exact cut_to (by omega)
      have t2 : TL.tl (cutS L (some (d + 1)) none) = (TL.tl L).drop (d.toNat + 1) := by
        have e1 : d + 1 = ((d.toNat + 1 : Nat) : Int) := by omega
        rw [e1]; exact cut_from (by omega)
      refine ⟨_, rfl, _, rfl, d, rfl, L, rfl, hLz, _, rfl, _, rfl, _, _, rfl, rfl, _, rfl, L, rfl, hLz, _, _, rfl, rfl, ?_, ?_⟩
      · rw [TL.len_tl, TL.len_tl, t1, t2, List.length_take, List.length_drop, ← TL.len_tl, sizeLine_eq]
        rw [sizeLine_eq] at hLz
        omega
      · refine ⟨r, _, fs ++ [(TL.tl L)[d.toNat]], _, _, rfl, ?_, ?_, ?_, ?_, ?_⟩
        · rw [upd_same, List.map_append, List.map_append]; rfl
        · rw [List.length_append, hlen]; rfl
        · rw [TL.tl_append, t1, t2]
          have e2 : (TL.tl L).take d.toNat ++ ((TL.tl L)[d.toNat]'hj) :: (TL.tl L).drop (d.toNat + 1) = TL.tl L := by
            rw [← List.drop_eq_getElem_cons hj, List.take_append_drop]
          refine List.Perm.trans ?_ hperm
          conv => rhs; rw [← e2]
          rw [List.append_assoc]
          exact List.Perm.append_left _ (List.perm_middle (a := (TL.tl L)[d.toNat]'hj) (l₁ := (TL.tl L).take d.toNat) (l₂ := (TL.tl L).drop (d.toNat + 1))).symm
        · exact hp2.same s3
        · exact kk.trans (kk2.trans (Kp.of s3))
    · rintro σ H1 ⟨F1, L, fs, v4, v5, rfl, hF1, hlen, hperm, hp1, kk⟩
      refine ⟨⟨_, rfl⟩, _, rfl, F1, fs.map sg, rfl, SqL.of hF1, by rw [List.length_map]; omega, fun ys q hperm2 hsort hq => ?_⟩
      obtain ⟨ds, rfl, hd⟩ := perm_sg hperm2
      have hl := ltr_of hperm hd (sorted_sg hsort)
      have hdl : ds.length = m := hd.length_eq.trans hlen
      refine ⟨_, q, ds.map sg, rfl, rfl, Or.inl (SqL.of upd_same), ?_, ?_⟩
      · rw [sum_sg]
        show ds.length + (ds.map sg).length * 0 ≤ 16777216
        omega
      · have e : TL.tl (Txt.join (Str.ofString "") (ds.map sg)) = ds := join_sg ds
        refine k _ _ ⟨by rw [TL.len_tl, e]; exact hdl, by rw [e]; exact hl.1, by rw [e]; exact hl.2⟩ (hp1.same (same_new hq)) (kk.trans (Kp.of (same_new hq)))
abbrev s__law_bits : Stmt := top 32
abbrev N__law_bits : List Str := ["_law_pen_here"]
abbrev P__law_bits : List Str := ["_law_pen_here"]
theorem sc__law_bits : FnScope N__law_bits P__law_bits (defScope s__law_bits) := ⟨rfl, rfl, rfl, by decide +kernel, rfl, by decide +kernel, by decide +kernel⟩

theorem ok_bits {f fD fP : Addr} {fd fdD fdP : FuncData} (F : Fun K "_law_bits" "_law_bits" s__law_bits f fd) (T : TxtP K mg fD fP) (FD : Fun K "_law_draw" "_law_draw" s__law_draw fD fdD) (b_law_draw : Binds K fdD P__law_draw [])
    (FP : Fun K "_law_pick" "_law_pick" s__law_pick fP fdP) (b_law_pick : Binds K fdP P__law_pick []) : FnOk P w K mg base CX0 3 f fd P__law_bits spBits := by
  have G_law_draw : FnOk P w K mg base CX0 1 fD fdD P__law_draw spDraw := ok_draw FD T.toTxtA
  have G_law_pick : FnOk P w K mg base CX0 2 fP fdP P__law_pick (spPickL K) := ok_pickL FP T.toTxtD FD b_law_draw
  refine F.ok sc__law_bits (fun vs H Q E h => ?_) (fun cdv A outer s H vs Q E hr h => ?_)
  · obtain ⟨p, c, n, rfl, _⟩ := h
    rfl
  · obtain ⟨p, c, n, rfl, hp, hn, k⟩ := h
    refine ⟨_, (pss_one (ps_ret (pe_call G_law_pick (hr.mono (by decide)) (by rfl) T.m_law_pick T.k_law_pick b_law_pick .nil pass0 (pa_cons (pv 0) (pa_cons (pe_lst (pa_cons pe_int (pa_cons pe_int (pa_cons pe_int (pa_cons pe_int (pa_cons pe_int (pa_cons pe_int (pa_cons pe_int (pa_cons pe_int (pa_cons (pe_call G_law_draw (hr.mono (by decide)) (by rfl) T.m_law_draw T.k_law_draw b_law_draw .nil pass0 (pa_cons (pv 0) (pa_cons pe_int pa_nil))) (pa_cons (pe_call G_law_draw (hr.mono (by decide)) (by rfl) T.m_law_draw T.k_law_draw b_law_draw .nil pass0 (pa_cons (pv 0) (pa_cons pe_int pa_nil))) pa_nil))))))))))) pa_nil))))), ?_⟩
    refine ⟨_, rfl, _, rfl, p, c, _, n, rfl, hp, by omega, by decide, by decide, fun x H1 x0 x1 hp1 k1 => ?_⟩
    refine ⟨_, rfl, p, c, _, n + 1, rfl, hp1, by omega, by decide, by decide, fun y H2 y0 y1 hp2 k2 => ⟨by show 10 ≤ sizeLine; decide, fun q hq => ?_⟩⟩
    refine ⟨p, c, q, _, n + 2, rfl, hp2.same (same_new hq), by omega, SqL.of upd_same, (by show 0 < 10; decide), (by show 10 ≤ 1000; decide), fun j v H3 hv hp3 k3 => ?_⟩
    have kk : Kp p H H3 := (k1.trans k2).trans ((Kp.of (same_new hq)).trans k3)
    have hm := List.mem_of_getElem? hv
    simp only [List.mem_cons, List.not_mem_nil, or_false] at hm
    rcases hm with e | e | e | e | e | e | e | e | e | e <;> (subst e; exact k _ _ (by omega) (by omega) hp3 kk)
end
end Vf
set_option Elab.async false
set_option linter.all false
set_option maxRecDepth 100000
set_option maxHeartbeats 4000000
namespace Vf
open PySem L2 PyProof.Rows
/-- a drawn code -/
def spCode (K : PySem.W.Frag) : Sp := fun vs H Q _ => ∃ (p c : Addr) (z : Str) (most : Int) (n : Nat), vs = [.ref p, .str z, .int most] ∧ Pen H p c n ∧ n ≤ 2 ^ 28 ∧ 1 ≤ most ∧ most ≤ 40 ∧ z.length ≤ 26 ∧
  ∀ (t : V) (rs : List Row) (es : List Int) (H' : Hp), Dp K H' t (codeD z rs es) → Good z.length rs es → (rs.length : Int) ≤ most → Pen H' p c (n + 5000) → Kp p H H' → Q t H'
/-- bits too -/
structure TxtB (K : PySem.W.Frag) (mg : Str → Option Value) (fD fP fB : Addr) : Prop extends TxtP K mg fD fP where
  m_law_bits : mg "_law_bits" = some (.ref fB)
  k_law_bits : PySem.W.keepIn K (.ref fB) = true
section
variable {P : Program} {w : World} {K : PySem.W.Frag} {mg : Str → Option Value} {base : Heap}
abbrev s__law_code : Stmt := top 33
abbrev N__law_code : List Str := ["_law_pen_here", "_law_letters_here", "_law_most", "_law_count", "_law_rows", "_law_state", "_law_row", "_law_letter", "_law_goal"]
abbrev P__law_code : List Str := ["_law_pen_here", "_law_letters_here", "_law_most"]
theorem sc__law_code : FnScope N__law_code P__law_code (defScope s__law_code) := ⟨rfl, rfl, rfl, by decide +kernel, rfl, by decide +kernel, by decide +kernel⟩

theorem ok_code {f fD fP fB : Addr} {fd fdD fdP fdB : FuncData} (F : Fun K "_law_code" "_law_code" s__law_code f fd) (T : TxtB K mg fD fP fB) (FD : Fun K "_law_draw" "_law_draw" s__law_draw fD fdD) (b_law_draw : Binds K fdD P__law_draw [])
    (FP : Fun K "_law_pick" "_law_pick" s__law_pick fP fdP) (b_law_pick : Binds K fdP P__law_pick []) (FB : Fun K "_law_bits" "_law_bits" s__law_bits fB fdB) (b_law_bits : Binds K fdB P__law_bits []) : FnOk P w K mg base CX0 4 f fd P__law_code (spCode K) := by
  have G_law_draw : FnOk P w K mg base CX0 1 fD fdD P__law_draw spDraw := ok_draw FD T.toTxtA
  have G_law_bits : FnOk P w K mg base CX0 3 fB fdB P__law_bits spBits := ok_bits FB T.toTxtP FD b_law_draw FP b_law_pick
  refine F.ok sc__law_code (fun vs H Q E h => ?_) (fun cdv A outer s H vs Q E hr h => ?_)
  · obtain ⟨p, c, z, most, n, rfl, _⟩ := h
    rfl
  · obtain ⟨p, c, z, most, n, rfl, hp, hn, hm1, hm2, hz, k⟩ := h
    refine ⟨_, (pss_cons (ps_par (i := 3) (j := 4) (by rfl) sc__law_code.nd rfl rfl (by decide) rfl rfl (pa_cons (pe_op op_add pe_int (pe_call G_law_draw (hr.mono (by decide)) (by rfl) T.m_law_draw T.k_law_draw b_law_draw .nil pass0 (pa_cons (pv 0) (pa_cons (pv 2) pa_nil)))) (pa_cons (pe_lst pa_nil) pa_nil)) (by rfl))
      (pss_cons (ps_for PassesOwn.never rfl (pi_range1 (by rfl) T.range (pa_cons (pv 3) pa_nil)) (pg_name (i := 5) sc__law_code.nd rfl (Or.inl rfl)) (pss_cons (ps_set (i := 6) sc__law_code.nd rfl (Or.inl rfl) (pe_lst pa_nil))
      (pss_cons (ps_for PassesOwn.never rfl (pi_str (pv 1)) (pg_name (i := 7) sc__law_code.nd rfl (Or.inl rfl)) (pss_cons (ps_set (i := 8) sc__law_code.nd rfl (Or.inl rfl) (pe_call G_law_draw (hr.mono (by decide)) (by rfl) T.m_law_draw T.k_law_draw b_law_draw .nil pass0 (pa_cons (pv 0) (pa_cons (pv 3) pa_nil))))
      (pss_one (ps_expr (pe_bm PySem.F.plainAttrs_list PySem.F.slot_list_append PySem.F.type_list_append mt_append (pv 6) (pa_cons (pe_tup (pa_cons (pv 8) (pa_cons (pe_call G_law_bits (hr.mono (by decide)) (by rfl) T.m_law_bits T.k_law_bits b_law_bits .nil pass0 (pa_cons (pv 0) pa_nil)) pa_nil))) pa_nil))))))
      (pss_one (ps_expr (pe_bm PySem.F.plainAttrs_list PySem.F.slot_list_append PySem.F.type_list_append mt_append (pv 4) (pa_cons (pv 6) pa_nil)))))))
      (pss_one (ps_ret (pe_tup (pa_cons (pv 1) (pa_cons (pv 4) (pa_cons (pe_lc (own := [("_law_state", 5)]) (g := gName 5) (by rfl) sc__law_code.nd (pi_range1 (by rfl) T.range (pa_cons (pv 3) pa_nil)) (blkOk_by (own := [("_law_state", 5)]) (N := N__law_code) (sc := defScope s__law_code) (by decide +kernel)) (fun _ _ _ _ _ => pg_name (i := 5) sc__law_code.nd rfl (Or.inl rfl)) (fun _ _ _ _ _ => pts_nil) (fun _ _ _ _ _ => (pe_call G_law_bits (hr.mono (by decide)) (by rfl) T.m_law_bits T.k_law_bits b_law_bits .nil pass0 (pa_cons (pv 0) pa_nil)))) pa_nil)))))))), ?_⟩
    refine ⟨_, rfl, _, rfl, p, c, _, n, rfl, hp, by omega, by omega, by omega, fun d H1 d0 d1 hp1 k1 => ⟨_, _, rfl, rfl, by show 0 ≤ sizeLine; decide, fun R hR => ⟨_, _, rfl, ?_⟩⟩⟩
    obtain ⟨nRp, nRc⟩ := hp1.new hR
    have hRn : H R = none := k1.free hp1 hR
    refine ⟨_, rfl, 1 + d, rfl, by omega, by omega, for_range (n := (1 + d).toNat) (fun i σ H2 => ∃ (rs : List V) (data : List Row) (v5 v6 v7 v8 : Option V), σ = [some (.ref p), some (.str z), some (.int most), some (.int (1 + d)), some (.ref R), v5, v6, v7, v8] ∧
      H2 R = some (.lst rs) ∧ DpAll K (L2.del H2 R) rs (data.map rowD) ∧ data.length = i ∧ (∀ r ∈ data, RowOk z.length (1 + d) r) ∧ Pen H2 p c (n + 1 + i * 104) ∧ Kp p H H2)
      ⟨[], [], none, none, none, none, rfl, upd_same, .nil, rfl, (fun r hr => nomatch hr), hp1.same (same_new hR), k1.trans (Kp.of (same_new hR))⟩ ?_ ?_⟩
    · rintro i σ H2 hi ⟨rs, data, v5, v6, v7, v8, rfl, hR2, hD, hl, hok, hp2, k2⟩
      refine ⟨by show 0 ≤ sizeLine; decide, fun r hr2 => ?_⟩
      have nrR : r ≠ R := (ne_of_none hR2 hr2).symm
      obtain ⟨nrp, nrc⟩ := hp2.new hr2
      have hrn : H r = none := k2.free hp2 hr2
      have e0 : Kl (L2.del H2 R) (L2.del (L2.del (L2.upd H2 r (.lst [])) R) r) := fun b o e _ => by
        obtain ⟨h1, h2⟩ := del_some e
        have h3 : b ≠ r := ne_of_none h2 hr2
        rw [del_ne h3, del_ne h1, upd_ne h3]
        exact h2
      refine ⟨_, rfl, z, rfl, for_it walk_strS (fun j σ H3 => ∃ (ts : List V) (row : Row) (v7 v8 : Option V), σ = [some (.ref p), some (.str z), some (.int most), some (.int (1 + d)), some (.ref R), some (.int (0 + i)), some (.ref r), v7, v8] ∧
        H3 R = some (.lst rs) ∧ H3 r = some (.lst ts) ∧ DpAll K (L2.del (L2.del H3 R) r) rs (data.map rowD) ∧ DpAll K (L2.del (L2.del H3 R) r) ts (row.map tupD) ∧ row.length = j ∧ (∀ gb ∈ row, 0 ≤ gb.1 ∧ gb.1 < 1 + d ∧ 0 ≤ gb.2 ∧ gb.2 < 100) ∧ Pen H3 p c (n + 1 + i * 104 + j * 4) ∧ Kp p H H3)
        ⟨[], [], v7, v8, rfl, by rw [upd_ne nrR.symm]; exact hR2, upd_same, hD.mv e0, .nil, rfl, (fun r hr => nomatch hr), hp2.same (same_new hr2), k2.trans (Kp.of (same_new hr2))⟩ (fun _ _ _ _ _ => trivial) ?_ ?_⟩
      · rintro j x σ H3' H3 hj ⟨ts, row, v7, v8, rfl, hR3, hr3, hD1, hD2, hl2, hok2, hp3, k3⟩ ⟨rfl, cc, hcc, rfl⟩
        refine ⟨_, rfl, _, rfl, p, c, _, _, rfl, hp3, by omega, by omega, by omega, fun g H4 g0 g1 hp4 k4 => ?_⟩
        obtain ⟨kvs, hpk⟩ := hp3.dk
        have hR4 := k4 _ _ hR3 nRp
        have hr4 := k4 _ _ hr3 nrp
        refine ⟨_, rfl, Or.inl ⟨rfl, _, SqL.of hr4⟩, _, rfl, _, rfl, p, c, _, rfl, hp4, by omega, fun b H5 b0 b1 hp5 k5 => ⟨by show 2 ≤ sizeLine; decide, fun q hq => ?_⟩⟩
        have hr5 := k5 _ _ hr4 nrp
        have hR5 := k5 _ _ hR4 nRp
        have nqr : q ≠ r := (ne_of_none hr5 hq).symm
        have nqR : q ≠ R := (ne_of_none hR5 hq).symm
        refine ⟨r, ts, .ref q, rfl, rfl, by rw [upd_ne nqr.symm]; exact hr5, ?_, ?_⟩
        · rw [hD2.length, List.length_map]
          exact small1000 (by omega)
        have e1 : Kl (L2.del (L2.del H3 R) r) (L2.del (L2.del (L2.upd (L2.upd H5 q (.tup [.int g, .int b])) r (.lst (ts ++ [.ref q]))) R) r) :=
          (((Kl.kp (k4.trans k5) hpk).del R).del r).trans fun c o e _ => by
            obtain ⟨h1, h2⟩ := del_some e
            obtain ⟨h3, h4⟩ := del_some h2
            rw [del_ne h1, del_ne h3, upd_ne h1, upd_ne (ne_of_none h4 hq)]
            exact h4
        refine ⟨ts ++ [.ref q], row ++ [(g, b)], _, _, rfl, ?_, upd_same, hD1.mv e1, ?_, ?_, ?_, ?_, ?_⟩
        · rw [upd_ne nrR.symm, upd_ne nqR.symm]; exact hR5
        · rw [List.map_append]
          refine (hD2.mv e1).snoc (.tup (SqT.of ?_) (.cons (.int g) (.cons (.int b) .nil)))
          rw [del_ne nqr, del_ne nqR, upd_ne nqr, upd_same]
        · rw [List.length_append, hl2]; rfl
        · intro gb hgb
          rcases List.mem_append.mp hgb with h | h
          · exact hok2 gb h
          · rw [List.mem_singleton.mp h]; exact ⟨g0, g1, b0, b1⟩
        · exact ((hp5.same (same_new hq)).put nrp nrc).mono (by omega)
        · exact (((k3.trans k4).trans k5).trans (Kp.of (same_new hq))).put hrn
      · rintro σ H3 ⟨ts, row, v7, v8, rfl, hR3, hr3, hD1, hD2, hl2, hok2, hp3, k3⟩
        refine ⟨_, rfl, Or.inl ⟨rfl, _, SqL.of hR3⟩, _, rfl, R, rs, .ref r, rfl, rfl, hR3, ?_, ?_⟩
        · rw [hD1.length, List.length_map, hl]
          exact small1000 (by omega)
        refine ⟨rs ++ [.ref r], data ++ [row], _, _, _, _, rfl, upd_same, ?_, ?_, ?_, ?_, ?_⟩
        · rw [del_upd, List.map_append]
          refine (hD1.mv (Kl.undel _ _)).snoc (.lst (SqL.of ?_) (hD2.mv (Kl.undel _ _)))
          rw [del_ne nrR]; exact hr3
        · rw [List.length_append, hl]; rfl
        · intro y hy
          rcases List.mem_append.mp hy with h | h
          · exact hok y h
          · rw [List.mem_singleton.mp h]; exact ⟨hl2, hok2⟩
        · exact (hp3.put nRp nRc).mono (by omega)
        · exact k3.put hRn
    · rintro σ H2 ⟨rs, data, v5, v6, v7, v8, rfl, hR2, hD, hl, hok, hp2, k2⟩
      refine ⟨_, rfl, _, rfl, _, rfl, 1 + d, rfl, by omega, by omega, fun D hD0 => lc_range (n := (1 + d).toNat) (fun j H3 => ∃ es : List Int, H3 D = some (.lst (es.map V.int)) ∧ es.length = j ∧ (∀ e ∈ es, 0 ≤ e ∧ e < 100) ∧
        H3 R = some (.lst rs) ∧ DpAll K (L2.del (L2.del H3 R) D) rs (data.map rowD) ∧ Pen H3 p c (n + 1 + (1 + d).toNat * 104 + j * 3) ∧ Kp p H H3)
        ⟨[], upd_same, rfl, (fun e he => nomatch he), ?_, ?_, hp2.same (same_new hD0), k2.trans (Kp.of (same_new hD0))⟩ ?_ ?_⟩
      · rw [upd_ne (ne_of_none hR2 hD0)]; exact hR2
      · refine hD.mv fun b o e _ => ?_
        obtain ⟨h1, h2⟩ := del_some e
        have h3 : b ≠ D := ne_of_none h2 hD0
        rw [del_ne h3, del_ne h1, upd_ne h3]
        exact h2
      · rintro j H3 hj ⟨es, hD3, hl3, hok3, hR3, hDp, hp3, k3⟩
        obtain ⟨nDp, nDc⟩ := hp2.new hD0
        have hDn : H D = none := k2.free hp2 hD0
        have nDR : D ≠ R := (ne_of_none hR2 hD0).symm
        refine ⟨rfl, ?_⟩
        refine lcYes ?_
        refine ⟨_, rfl, p, c, _, rfl, hp3, by omega, fun b H4 b0 b1 hp4 k4 => ⟨es.map V.int, k4 _ _ hD3 nDp, ?_, es ++ [b], ?_, ?_, ?_, ?_, ?_, ?_, ?_⟩⟩
        · rw [List.length_map, hl3]; exact small1000 (by omega)
        · rw [upd_same, List.map_append]; rfl
        · rw [List.length_append, hl3]; rfl
        · intro y hy
          rcases List.mem_append.mp hy with h | h
          · exact hok3 y h
          · rw [List.mem_singleton.mp h]; exact ⟨b0, b1⟩
        · rw [upd_ne nDR.symm]; exact k4 _ _ hR3 nRp
        · obtain ⟨kvs, hpk⟩ := hp3.dk
          refine hDp.mv ((((Kl.kp k4 hpk).del R).del D).trans fun b o e _ => ?_)
          obtain ⟨h1, h2⟩ := del_some e
          rw [del_ne h1] at e ⊢
          obtain ⟨h3, h4⟩ := del_some h2
          rw [del_ne h3, upd_ne h1]
          exact h4
        · exact (hp4.put nDp nDc).mono (by omega)
        · exact (k3.trans k4).put hDn
      · rintro H3 ⟨es, hD3, hl3, hok3, hR3, hDp, hp3, k3⟩
        refine ⟨by show 3 ≤ sizeLine; decide, fun t ht => ?_⟩
        have st : Same H3 (L2.upd H3 t (.tup [.str z, .ref R, .ref D])) := same_new ht
        refine k _ data es _ (.tup (SqT.of upd_same) (.cons (.str z) (.cons (.lst (SqL.of (st _ _ hR3)) (hDp.mv (((Kl.undel _ _).trans (Kl.undel _ _)).trans (Kl.same st)))) (.cons (.lst (SqL.of (st _ _ hD3)) (dpAll_ints _ _ _)) .nil)))) ⟨?_, ?_, fun r hr => ?_, hok3⟩ ?_ ?_ ?_
        · rw [hl3, hl]
        · omega
        · obtain ⟨h1, h2⟩ := hok r hr
          refine ⟨h1, fun gb hgb => ?_⟩
          obtain ⟨a1, a2, a3, a4⟩ := h2 gb hgb
          exact ⟨a1, by omega, a3, a4⟩
        · omega
        · exact (hp3.same st).mono (by omega)
        · exact k3.trans (Kp.of st)
end
end Vf
set_option Elab.async false
set_option linter.all false
set_option maxRecDepth 100000
set_option maxHeartbeats 4000000
namespace Vf
open PySem L2 PyProof.Rows
section
variable {P : Program} {w : World} {K : PySem.W.Frag} {mg : Str → Option Value} {base : Heap}
/-- a drawn column -/
def spCol : Sp := fun vs H Q _ => ∃ (p c : Addr) (z : Str) (most n : Nat), vs = [.ref p, .str z, .int most] ∧ Pen H p c n ∧ n ≤ 2 ^ 29 ∧ most ≤ 100 ∧ 0 < z.length ∧ z.length ≤ 26 ∧
  ∀ (y : Str) (H' : Hp), y.length ≤ most → (∀ x ∈ TL.tl y, x ∈ TL.tl z) → Pen H' p c (n + 300) → Kp p H H' → Q (.str y) H'
abbrev s__law_column : Stmt := top 37
abbrev N__law_column : List Str := ["_law_pen_here", "_law_letters_here", "_law_most", "_law_many", "_law_found", "_law_place", "_law_again"]
abbrev P__law_column : List Str := ["_law_pen_here", "_law_letters_here", "_law_most"]
theorem sc__law_column : FnScope N__law_column P__law_column (defScope s__law_column) := ⟨rfl, rfl, rfl, by decide +kernel, rfl, by decide +kernel, by decide +kernel⟩

theorem ok_col {f fD fP : Addr} {fd fdD fdP : FuncData} (F : Fun K "_law_column" "_law_column" s__law_column f fd) (T : TxtP K mg fD fP) (FD : Fun K "_law_draw" "_law_draw" s__law_draw fD fdD) (b_law_draw : Binds K fdD P__law_draw [])
    (FP : Fun K "_law_pick" "_law_pick" s__law_pick fP fdP) (b_law_pick : Binds K fdP P__law_pick []) : FnOk P w K mg base CX0 3 f fd P__law_column spCol := by
  have G_law_draw : FnOk P w K mg base CX0 1 fD fdD P__law_draw spDraw := ok_draw FD T.toTxtA
  have G_law_pick : FnOk P w K mg base CX0 2 fP fdP P__law_pick spPickS := ok_pickS FP T.toTxtD FD b_law_draw
  refine F.ok sc__law_column (fun vs H Q E h => ?_) (fun cdv A outer s H vs Q E hr h => ?_)
  · obtain ⟨p, c, z, most, n, rfl, _⟩ := h
    rfl
  · obtain ⟨p, c, z, most, n, rfl, hp, hn, hm, hz0, hz, k⟩ := h
    refine ⟨_, (pss_cons (ps_par (i := 3) (j := 4) (by rfl) sc__law_column.nd rfl rfl (by decide) rfl rfl (pa_cons (pe_call G_law_draw (hr.mono (by decide)) (by rfl) T.m_law_draw T.k_law_draw b_law_draw .nil pass0 (pa_cons (pv 0) (pa_cons (pe_op op_add (pv 2) pe_int) pa_nil))) (pa_cons pe_str pa_nil)) (by rfl))
      (pss_cons (ps_for PassesOwn.never rfl (pi_range1 (by rfl) T.range (pa_cons (pv 3) pa_nil)) (pg_name (i := 5) sc__law_column.nd rfl (Or.inl rfl)) (pss_cons (ps_set (i := 6) sc__law_column.nd rfl (Or.inl rfl) (pe_and (pe_cmpR op_ne (pv 4) pe_str (nomark _)) (pe_one (pe_cmpR op_eq (pe_call G_law_draw (hr.mono (by decide)) (by rfl) T.m_law_draw T.k_law_draw b_law_draw .nil pass0 (pa_cons (pv 0) (pa_cons pe_int pa_nil))) pe_int (nomark _)))))
      (pss_one (ps_set (i := 4) sc__law_column.nd rfl (Or.inl rfl) (pe_op op_add_str (pv 4) (pe_ifExp (pt_val (pv 6)) (pe_ix ix_str (pv 4) (pe_un un_neg pe_int) (fun _ _ => rfl)) (pe_call G_law_pick (hr.mono (by decide)) (by rfl) T.m_law_pick T.k_law_pick b_law_pick .nil pass0 (pa_cons (pv 0) (pa_cons (pv 1) pa_nil)))))))))
      (pss_one (ps_ret (pv 4))))), ?_⟩
    refine ⟨_, rfl, _, rfl, _, _, rfl, rfl, p, c, _, n, rfl, hp, by omega, by omega, by omega, fun d H1 d0 d1 hp1 k1 => ⟨_, _, rfl, ?_⟩⟩
    refine ⟨_, rfl, d, rfl, by omega, by omega, for_range (n := d.toNat) (fun i σ H2 => ∃ (y : Str) (v5 v6 : Option V), σ = [some (.ref p), some (.str z), some (.int most), some (.int d), some (.str y), v5, v6] ∧
      y.length = i ∧ (∀ x ∈ TL.tl y, x ∈ TL.tl z) ∧ Pen H2 p c (n + 1 + i * 2) ∧ Kp p H H2) ⟨Str.empty, none, none, rfl, rfl, (fun x hx => nomatch hx), hp1, k1⟩ ?_ ?_⟩
    · rintro i σ H2 hi ⟨y, v5, v6, rfl, hl, hy, hp2, k2⟩
      have hys : y.length ≤ sizeLine := Nat.le_of_lt (small1000 (by omega))
      -- again = found != '' and draw(pen, 3) == 0
      refine ⟨_, rfl, rfl, _, rfl, ite2 (fun c1 => ?_) (fun c1 => ?_)⟩
      · have hne : TL.tl y ≠ [] := by
          intro e
          have : y = Str.empty := TL.ext_tl e
          subst this
          simp at c1
          exact c1 rfl
        have h0 : 0 < y.length := by rw [TL.len_tl]; exact List.length_pos_iff.mpr hne
        refine ⟨_, rfl, p, c, 3, _, rfl, hp2, by omega, by decide, by decide, fun g H3 g0 g1 hp3 k3 => ⟨rfl, ?_⟩⟩
        refine ⟨_, rfl, _, rfl, _, rfl, ite2 (fun c2 => ?_) (fun c2 => ?_)⟩
        · refine ⟨_, rfl, 1, rfl, y, -1, (TL.tl y).getLast hne, rfl, rfl, hys, ?_, _, _, rfl, rfl, ?_, ?_⟩
          · have e := List.dropLast_concat_getLast hne
            have := atI_last (TL.tl y).dropLast ((TL.tl y).getLast hne)
            rw [e] at this
            exact this
          · show y.length + 1 ≤ sizeLine
            exact Nat.le_of_lt (small1000 (by omega))
          · refine ⟨_, _, _, rfl, ?_, ?_, hp3.mono (by omega), k2.trans k3⟩
            · rw [TL.len_tl, TL.tl_append, List.length_append, ← TL.len_tl, hl]; rfl
            · intro x hx
              rw [TL.tl_append] at hx
              rcases List.mem_append.mp hx with h | h
              · exact hy x h
              · have h : x ∈ [(TL.tl y).getLast hne] := h
                rw [List.mem_singleton.mp h]; exact hy _ (List.getLast_mem hne)
        · refine ⟨_, rfl, _, rfl, p, c, z, _, rfl, hp3, by omega, hz0, by omega, fun j x H4 hx hp4 k4 => ?_⟩
          refine ⟨_, _, rfl, rfl, ?_, ?_⟩
          · show y.length + 1 ≤ sizeLine
            exact Nat.le_of_lt (small1000 (by omega))
          · refine ⟨_, _, _, rfl, ?_, ?_, hp4.mono (by omega), (k2.trans k3).trans k4⟩
            · rw [TL.len_tl, TL.tl_append, List.length_append, ← TL.len_tl, hl]; rfl
            · intro x' hx'
              rw [TL.tl_append] at hx'
              rcases List.mem_append.mp hx' with h | h
              · exact hy x' h
              · have h : x' ∈ [x] := h
                rw [List.mem_singleton.mp h]; exact List.mem_of_getElem? hx
      · refine ⟨_, rfl, _, rfl, _, rfl, ite2 (fun c2 => absurd c2 (by simp)) (fun _ => ?_)⟩
        refine ⟨_, rfl, _, rfl, p, c, z, _, rfl, hp2, by omega, hz0, by omega, fun j x H4 hx hp4 k4 => ?_⟩
        refine ⟨_, _, rfl, rfl, ?_, ?_⟩
        · show y.length + 1 ≤ sizeLine
          exact Nat.le_of_lt (small1000 (by omega))
        · refine ⟨_, _, _, rfl, ?_, ?_, hp4.mono (by omega), k2.trans k4⟩
          · rw [TL.len_tl, TL.tl_append, List.length_append, ← TL.len_tl, hl]; rfl
          · intro x' hx'
            rw [TL.tl_append] at hx'
            rcases List.mem_append.mp hx' with h | h
            · exact hy x' h
            · have h : x' ∈ [x] := h
              rw [List.mem_singleton.mp h]; exact List.mem_of_getElem? hx
    · rintro σ H2 ⟨y, v5, v6, rfl, hl, hy, hp2, k2⟩
      exact ⟨_, rfl, k y H2 (by omega) hy (hp2.mono (by omega)) k2⟩
end
end Vf
set_option Elab.async false
set_option linter.all false
set_option maxRecDepth 100000
set_option maxHeartbeats 4000000
/-! equal data of codes -/
namespace Vf
open PySem L2 PyProof.Rows
theorem eqvAll_inj {α : Type} [DecidableEq α] {f : α → PyData} (h : ∀ x y, PyData.eqv (f x) (f y) = decide (x = y)) : ∀ xs ys : List α, PyData.eqvAll (xs.map f) (ys.map f) = decide (xs = ys)
  | [], [] => by simp [PyData.eqvAll]
  | [], _ :: _ => by simp [PyData.eqvAll]
  | _ :: _, [] => by simp [PyData.eqvAll]
  | x :: r, y :: t => by
    simp only [List.map_cons, PyData.eqvAll, h, eqvAll_inj h r t]
    rw [Bool.eq_iff_iff]
    simp
theorem eqv_int (x y : Int) : PyData.eqv (.int x) (.int y) = decide (x = y) := by
  rw [Bool.eq_iff_iff]; simp [PyData.eqv]
theorem eqv_tupD (x y : Int × Int) : PyData.eqv (tupD x) (tupD y) = decide (x = y) := by
  obtain ⟨a, b⟩ := x
  obtain ⟨c, d⟩ := y
  rw [Bool.eq_iff_iff]
  simp [tupD, PyData.eqv, PyData.eqvAll]
theorem eqv_rowT (x y : Row) : PyData.eqv (rowT x) (rowT y) = decide (x = y) := by
  show PyData.eqv (.tuple (x.map tupD)) (.tuple (y.map tupD)) = _
  rw [PyData.eqv]; exact eqvAll_inj eqv_tupD x y
theorem eqv_rowD (x y : Row) : PyData.eqv (rowD x) (rowD y) = decide (x = y) := by
  show PyData.eqv (.list (x.map tupD)) (.list (y.map tupD)) = _
  rw [PyData.eqv]; exact eqvAll_inj eqv_tupD x y
theorem eqv_rowsT (x y : List Row) : PyData.eqv (rowsT x) (rowsT y) = decide (x = y) := by
  show PyData.eqv (.tuple (x.map rowT)) (.tuple (y.map rowT)) = _
  rw [PyData.eqv]; exact eqvAll_inj eqv_rowT x y
theorem eqv_rowsD (x y : List Row) : PyData.eqv (rowsD x) (rowsD y) = decide (x = y) := by
  show PyData.eqv (.list (x.map rowD)) (.list (y.map rowD)) = _
  rw [PyData.eqv]; exact eqvAll_inj eqv_rowD x y
theorem eqv_intsT (x y : List Int) : PyData.eqv (intsT x) (intsT y) = decide (x = y) := by
  show PyData.eqv (.tuple (x.map PyData.int)) (.tuple (y.map PyData.int)) = _
  rw [PyData.eqv]; exact eqvAll_inj eqv_int x y
theorem eqv_intsD (x y : List Int) : PyData.eqv (intsD x) (intsD y) = decide (x = y) := by
  show PyData.eqv (.list (x.map PyData.int)) (.list (y.map PyData.int)) = _
  rw [PyData.eqv]; exact eqvAll_inj eqv_int x y
theorem lay_all {α : Type} {f : α → PyData} (h : ∀ x, PyData.canLay0 (f x) = true) : ∀ xs : List α, PyData.canLayAll0 (xs.map f) = true
  | [] => by simp [PyData.canLayAll0]
  | x :: r => by simp [PyData.canLayAll0, h x, lay_all h r]
theorem depth_all {α : Type} {f : α → PyData} {n : Nat} (h : ∀ x, PyData.depth (f x) ≤ n) : ∀ xs : List α, PyData.depthAll (xs.map f) ≤ n
  | [] => by simp [PyData.depthAll]
  | x :: r => by rw [List.map_cons, PyData.depthAll]; exact Nat.max_le.mpr ⟨h x, depth_all h r⟩
theorem lay_tupD (x : Int × Int) : PyData.canLay0 (tupD x) = true := by simp [tupD, PyData.canLay0, PyData.canLayAll0]
theorem dep_tupD (x : Int × Int) : PyData.depth (tupD x) ≤ 1 := by simp [tupD, PyData.depth, PyData.depthAll]
theorem shaped_of {d : PyData} {n : Nat} (h : d.canLay0 = true) (hd : d.depth ≤ n) (hn : n ≤ 64) : SeqAt.shaped d = true := by
  unfold SeqAt.shaped
  rw [h, Bool.true_and]
  exact decide_eq_true (Nat.le_trans hd hn)
theorem lay_rowT (x : Row) : PyData.canLay0 (rowT x) = true := by rw [rowT, PyData.canLay0]; exact lay_all lay_tupD x
theorem lay_rowD (x : Row) : PyData.canLay0 (rowD x) = true := by rw [rowD, PyData.canLay0]; exact lay_all lay_tupD x
theorem dep_rowT (x : Row) : PyData.depth (rowT x) ≤ 2 := by rw [rowT, PyData.depth]; have := depth_all dep_tupD x; omega
theorem dep_rowD (x : Row) : PyData.depth (rowD x) ≤ 2 := by rw [rowD, PyData.depth]; have := depth_all dep_tupD x; omega
theorem lay_rowsT (x : List Row) : PyData.canLay0 (rowsT x) = true := by rw [rowsT, PyData.canLay0]; exact lay_all lay_rowT x
theorem lay_rowsD (x : List Row) : PyData.canLay0 (rowsD x) = true := by rw [rowsD, PyData.canLay0]; exact lay_all lay_rowD x
theorem dep_rowsT (x : List Row) : PyData.depth (rowsT x) ≤ 3 := by rw [rowsT, PyData.depth]; have := depth_all dep_rowT x; omega
theorem dep_rowsD (x : List Row) : PyData.depth (rowsD x) ≤ 3 := by rw [rowsD, PyData.depth]; have := depth_all dep_rowD x; omega
theorem lay_int (x : Int) : PyData.canLay0 (.int x) = true := by simp [PyData.canLay0]
theorem dep_int (x : Int) : PyData.depth (.int x) ≤ 0 := by simp [PyData.depth]
theorem lay_intsT (x : List Int) : PyData.canLay0 (intsT x) = true := by rw [intsT, PyData.canLay0]; exact lay_all lay_int x
theorem lay_intsD (x : List Int) : PyData.canLay0 (intsD x) = true := by rw [intsD, PyData.canLay0]; exact lay_all lay_int x
theorem dep_intsT (x : List Int) : PyData.depth (intsT x) ≤ 1 := by rw [intsT, PyData.depth]; have := depth_all dep_int x; omega
theorem dep_intsD (x : List Int) : PyData.depth (intsD x) ≤ 1 := by rw [intsD, PyData.depth]; have := depth_all dep_int x; omega
theorem shaped_rowsT (x : List Row) : SeqAt.shaped (rowsT x) = true := shaped_of (lay_rowsT x) (dep_rowsT x) (by decide)
theorem shaped_rowsD (x : List Row) : SeqAt.shaped (rowsD x) = true := shaped_of (lay_rowsD x) (dep_rowsD x) (by decide)
theorem shaped_intsT (x : List Int) : SeqAt.shaped (intsT x) = true := shaped_of (lay_intsT x) (dep_intsT x) (by decide)
theorem shaped_intsD (x : List Int) : SeqAt.shaped (intsD x) = true := shaped_of (lay_intsD x) (dep_intsD x) (by decide)
end Vf
set_option Elab.async false
set_option linter.all false
set_option maxRecDepth 100000
set_option maxHeartbeats 4000000
/-! keys as data: membership and index in lists of keys -/
namespace Vf
open PySem L2 PyProof.Rows
theorem hu65 {k : Nat} {A : Around} (hr : Room k A) : A.units + 65 < cLine := by have := hr.un; omega
def kD : Key → PyData
  | .inl n => .int n
  | .inr s => .str s
def memD (k : List Key) : PyData := .tuple (k.map kD)
theorem eqv_kD (x y : Key) : PyData.eqv (kD x) (kD y) = decide (x = y) := by
  rw [Bool.eq_iff_iff]
  cases x <;> cases y <;> simp [kD, PyData.eqv]
theorem eqv_memD (x y : List Key) : PyData.eqv (memD x) (memD y) = decide (x = y) := by
  show PyData.eqv (.tuple (x.map kD)) (.tuple (y.map kD)) = _
  rw [PyData.eqv]; exact eqvAll_inj eqv_kD x y
def okK : Key → Prop
  | .inl _ => True
  | .inr s => PyData.strOk s = true
def okM (k : List Key) : Prop := ∀ x ∈ k, okK x
theorem lay_kD {x : Key} (h : okK x) : PyData.canLay0 (kD x) = true := by
  cases x with
  | inl n => simp [kD, PyData.canLay0]
  | inr s => simp only [kD, PyData.canLay0]; exact h
theorem lay_kDs : ∀ {k : List Key}, okM k → PyData.canLayAll0 (k.map kD) = true
  | [], _ => by simp [PyData.canLayAll0]
  | x :: r, h => by
    simp only [List.map_cons, PyData.canLayAll0, Bool.and_eq_true]
    exact ⟨lay_kD (h x List.mem_cons_self), lay_kDs fun y hy => h y (List.mem_cons_of_mem _ hy)⟩
theorem dep_kD (x : Key) : PyData.depth (kD x) ≤ 0 := by cases x <;> simp [kD, PyData.depth]
theorem dep_memD (k : List Key) : PyData.depth (memD k) ≤ 1 := by
  show PyData.depth (.tuple (k.map kD)) ≤ 1
  rw [PyData.depth]; have := depth_all dep_kD k; omega
theorem lay_memDs : ∀ {ks : List (List Key)}, (∀ k ∈ ks, okM k) → PyData.canLayAll0 (ks.map memD) = true
  | [], _ => by simp [PyData.canLayAll0]
  | x :: r, h => by
    simp only [List.map_cons, PyData.canLayAll0, Bool.and_eq_true]
    refine ⟨?_, lay_memDs fun y hy => h y (List.mem_cons_of_mem _ hy)⟩
    show PyData.canLay0 (.tuple (x.map kD)) = true
    simp only [PyData.canLay0]
    exact lay_kDs (h x List.mem_cons_self)
theorem shaped_memD {k : List Key} (h : okM k) : SeqAt.shaped (memD k) = true := shaped_of (n := 1) (by
    show PyData.canLay0 (.tuple (k.map kD)) = true
    simp only [PyData.canLay0]
    exact lay_kDs h) (dep_memD k) (by decide)
theorem shaped_memDs {ks : List (List Key)} (h : ∀ k ∈ ks, okM k) : SeqAt.shaped (.list (ks.map memD)) = true := shaped_of (n := 2) (by
    simp only [PyData.canLay0]
    exact lay_memDs h) (by rw [PyData.depth]; have := depth_all dep_memD ks; omega) (by decide)
theorem dpAll_k {K : PySem.W.Frag} (H : Hp) : ∀ k : List Key, DpAll K H (k.map kV) (k.map kD)
  | [] => .nil
  | .inl n :: k => .cons (.int n) (dpAll_k H k)
  | .inr s :: k => .cons (.str s) (dpAll_k H k)
theorem dp_mem {K : PySem.W.Frag} {H : Hp} {t : Addr} {k : List Key} (h : H t = some (.tup (k.map kV))) : Dp K H (.ref t) (memD k) := .tup (SqT.of h) (dpAll_k H k)

def mkS (l : List Nat) : Str := ⟨l.toArray⟩
theorem tl_mkS (l : List Nat) : TL.tl (mkS l) = l := by simp [mkS, TL.tl]
theorem mkS_tl (y : Str) : mkS (TL.tl y) = y := TL.ext_tl (tl_mkS _)
theorem mkS_snoc (l : List Nat) (c : Nat) : mkS l ++ sg c = mkS (l ++ [c]) := TL.ext_tl (by rw [TL.tl_append, tl_mkS, tl_mkS, sg_tl])
theorem mkS_len (l : List Nat) : (mkS l).length = l.length := by rw [TL.len_tl, tl_mkS]
theorem small13 {n : Nat} (h : n ≤ 100000) : n ≤ sizeLine := Nat.le_trans h (by decide)
/-- keys that are data -/
structure KdD {κ : Type} [DecidableEq κ] (kd : Kd κ) where
  dat : κ → PyData
  ok : κ → Prop
  dp : ∀ {K : PySem.W.Frag} {H : Hp} {v : V} {k : κ}, kd.at_ H v k → Dp K H v (dat k)
  eqv : ∀ a b, PyData.eqv (dat a) (dat b) = decide (a = b)
  lay : ∀ k, ok k → PyData.canLay0 (dat k) = true
  dep : ∀ k, PyData.depth (dat k) ≤ 1
def kddK : KdD kdK where
  dat := kD
  ok := okK
  dp := fun {K H v k} h => by
    cases k with
    | inl n => obtain rfl : v = .int n := h; exact .int n
    | inr s => obtain rfl : v = .str s := h; exact .str s
  eqv := eqv_kD
  lay := fun k h => lay_kD h
  dep := fun k => Nat.le_trans (dep_kD k) (by decide)
def kddT : KdD kdT where
  dat := memD
  ok := okM
  dp := fun {K H v k} h => by
    obtain ⟨b, rfl, hb⟩ := h
    exact dp_mem hb
  eqv := eqv_memD
  lay := fun k h => by
    show PyData.canLay0 (.tuple (k.map kD)) = true
    simp only [PyData.canLay0]
    exact lay_kDs h
  dep := dep_memD
section
variable {κ : Type} [DecidableEq κ] {kd : Kd κ} (D : KdD kd)
theorem KdD.layAll : ∀ {ks : List κ}, (∀ k ∈ ks, D.ok k) → PyData.canLayAll0 (ks.map D.dat) = true
  | [], _ => by simp [PyData.canLayAll0]
  | x :: r, h => by
    simp only [List.map_cons, PyData.canLayAll0, Bool.and_eq_true]
    exact ⟨D.lay x (h x List.mem_cons_self), KdD.layAll fun y hy => h y (List.mem_cons_of_mem _ hy)⟩
theorem KdD.shaped {k : κ} (h : D.ok k) : SeqAt.shaped (D.dat k) = true := shaped_of (n := 1) (D.lay k h) (D.dep k) (by decide)
theorem KdD.shapeds {ks : List κ} (h : ∀ k ∈ ks, D.ok k) : SeqAt.shaped (.list (ks.map D.dat)) = true := shaped_of (n := 2) (by
    simp only [PyData.canLay0]
    exact D.layAll h) (by rw [PyData.depth]; have := depth_all D.dep ks; omega) (by decide)
theorem KdD.any (ks : List κ) (k : κ) : ((ks.map D.dat).any fun z => PyData.eqv z (D.dat k)) = true ↔ k ∈ ks := by
  simp only [List.any_map, List.any_eq_true, Function.comp_apply, D.eqv, decide_eq_true_eq]
  exact ⟨fun ⟨x, hx, e⟩ => by rw [← e]; exact hx, fun h => ⟨k, h, rfl⟩⟩
theorem KdD.dps {K : PySem.W.Frag} {H : Hp} : ∀ {vs : List V} {ks : List κ}, Forall2 (kd.at_ H) vs ks → DpAll K H vs (ks.map D.dat)
  | [], [], _ => .nil
  | [], _ :: _, h => by have := h.1; cases this
  | _ :: _, [], h => by have := h.1; cases this
  | v :: vs, k :: ks, h => .cons (D.dp (h.2 0 v k rfl rfl)) (KdD.dps ⟨by have := h.1; simpa using this, fun i x y e1 e2 => h.2 (i + 1) x y e1 e2⟩)
end
theorem mt_indexDK {X : Cx} {K : PySem.W.Frag} (hK : X.K = K) (hu : X.A.units + 65 < cLine) : MtR X "list.index" (rIndexD K) := by subst hK; exact mt_indexD hu
theorem pe_bmK {X : Cx} {K : PySem.W.Frag} (hK : X.K = K) {T id : String} {name : Str} {r : V → List V → Hp → VK → Prop} {o e : Expr} {es : List Expr} {to : TE} {t : TA} {apos cpos : Pos} (pa : PlainAttrs T) (slot : Slot T name id) (hty : typeOf (.builtin id) = pure (.type "method_descriptor")) (hm : MtR X id r) (ho : PE X o to) (ha : PA X (e :: es) t)
    (hbase : attributeBase o name X.env (eval o X.env) = eval o X.env := by rfl)
    (hfew : ((backTo cpos (starEach (e :: es) X.env)).all (fun x => !x.1) && (backToKw cpos (keywordEach [] X.env)).all (fun x => x.1.isSome)
      && decide ((e :: es).length + ([] : List Keyword).length + (if ([] : List Keyword).isEmpty then 0 else 1) < 30)) = true := by rfl)
    (hline : (apos.endLine == cpos.line) = true := by rfl) (hs : starEach (e :: es) X.env = (false, eval e X.env) :: starEach es X.env := by rfl) (hplain : (backTo cpos (starEach es X.env)).any (·.1) = false := by rfl) :
    PE X (.Call (.Attribute o name apos) (e :: es) [] cpos) (tBM K T r to t) := by
  subst hK; exact pe_bm pa slot hty hm ho ha hbase hfew hline hs hplain
/-- a def that may raise, where it raises nothing -/
theorem FnOk.calm {P : Program} {w : World} {K : PySem.W.Frag} {mg : Str → Option Value} {base : Heap} {k : Nat} {f : Addr} {fd : FuncData} {ps : List Str} {sp : Sp} (F : FnOk P w K mg base (L2.CX P w) k f fd ps sp) : FnOk P w K mg base CX0 k f fd ps (fun vs H Q _ => sp vs H Q E0) :=
  ⟨fun vs H Q E q => F.len _ _ _ _ q, fun A outer s H args us vs Q E hr he hb hv hs => codeAny_mono (F.run A outer s H args us vs Q E0 hr he hb hv hs) fun r s' h => by
    cases r with
    | error e =>
      obtain ⟨_, _, _, _, _, _, _, _, _, _, _, _, z⟩ := h
      exact z.elim
    | ok fl => cases fl <;> exact h⟩
/-! where lambdas stand -/
def stVal : Stmt → Expr
  | .Assign _ v _ => v
  | .Return (some v) _ => v
  | _ => .Constant .none 0 ⟨0, 0, 0, 0⟩
def argN : Expr → Nat → Expr
  | .Call _ as _ _, i => as.getD i (.Constant .none 0 ⟨0, 0, 0, 0⟩)
  | e, _ => e
def lamScope : Expr → Scope
  | .Lambda _ _ s _ => s
  | _ => default
def lamBody : Expr → Expr
  | .Lambda _ b _ _ => b
  | e => e
def lamArgs : Expr → Arguments
  | .Lambda a _ _ _ => a
  | _ => default

open NdefX LamX in
def LF (e : Expr) (qual : Str) (cl : List (Str × Addr)) (c : Addr) : NF := ⟨"<lambda>", qual, lamArgs e, [], lamScope e, cl, c⟩
def forBody : Stmt → Nat → Stmt
  | .For _ _ b _ _, j => b.getD j (.Pass ⟨0, 0, 0, 0⟩)
  | s, _ => s
def ifTest : Stmt → Expr
  | .If t _ _ _ => t
  | _ => .Constant .none 0 ⟨0, 0, 0, 0⟩
def cmpLeft : Expr → Expr
  | .Compare l _ _ _ => l
  | e => e
def boolN : Expr → Nat → Expr
  | .BoolOp _ vs _, j => vs.getD j (.Constant .none 0 ⟨0, 0, 0, 0⟩)
  | e, _ => e
end Vf
set_option Elab.async false
set_option linter.all false
set_option maxRecDepth 100000
set_option maxHeartbeats 4000000
namespace Vf
open PySem L2 PyProof.Rows
open NdefX LamX
/-- what a column leaves, told by a function -/
def spMemF {κ : Type} [DecidableEq κ] (kd : Kd κ) (μ : List Nat → κ) (z : Str) : Sp := fun vs H Q _ => ∃ y : Str, vs = [.str y] ∧ (∀ c ∈ TL.tl y, c ∈ TL.tl z) ∧ y.length ≤ 100 ∧ ∀ v H', Same H H' → kd.at_ H' v (μ (TL.tl y)) → Q v H'
structure OL {κ : Type} [DecidableEq κ] (kd : Kd κ) (μ : List Nat → κ) (L : List Nat) (H : Hp) (F C : Addr) (H1 : Hp) (ks : List κ) (as : List V) (ys : List (List Nat)) : Prop where
  fnd : H1 F = some (.lst as)
  col : H1 C = some (.lst (ys.map fun l => V.str (mkS l)))
  at_ : Forall2 (kd.at_ H1) as ks
  mem : ys.map μ = ks
  len : ∀ (i : Nat) (y : List Nat), ys[i]? = some y → y.length ≤ i ∧ ∀ c ∈ y, c ∈ L
  same : Same H H1
theorem OL.sm {κ : Type} [DecidableEq κ] {kd : Kd κ} {μ : List Nat → κ} {L : List Nat} {H H1 H2 : Hp} {F C : Addr} {ks : List κ} {as : List V} {ys : List (List Nat)} (W : OL kd μ L H F C H1 ks as ys) (s : Same H1 H2) : OL kd μ L H F C H2 ks as ys :=
  ⟨s _ _ W.fnd, s _ _ W.col, W.at_.imp fun x y _ h => kd.keep h fun b xs e => s _ _ e, W.mem, W.len, W.same.trans s⟩
theorem OL.add {κ : Type} [DecidableEq κ] {kd : Kd κ} {μ : List Nat → κ} {L : List Nat} {H H1 : Hp} {F C : Addr} {ks : List κ} {as : List V} {ys : List (List Nat)} (W : OL kd μ L H F C H1 ks as ys) (n : C ≠ F) (hF : H F = none) (hC : H C = none) {a : V} {y : List Nat} (ha : kd.at_ H1 a (μ y)) (hy : y.length ≤ ys.length) (hyL : ∀ c ∈ y, c ∈ L) :
    OL kd μ L H F C (L2.upd (L2.upd H1 F (.lst (as ++ [a]))) C (.lst ((ys.map fun l => V.str (mkS l)) ++ [.str (mkS y)]))) (ks ++ [μ y]) (as ++ [a]) (ys ++ [y]) := by
  have t1 : ∀ b xs, H1 b = some (.tup xs) → L2.upd (L2.upd H1 F (.lst (as ++ [a]))) C (.lst ((ys.map fun l => V.str (mkS l)) ++ [.str (mkS y)])) b = some (.tup xs) := fun b xs e => by
    rw [upd_ne (ne_of e W.col (fun z => nomatch z)), upd_ne (ne_of e W.fnd (fun z => nomatch z))]
    exact e
  refine ⟨by rw [upd_ne n.symm, upd_same], by rw [upd_same, List.map_append]; rfl, (W.at_.imp fun x y _ h => kd.keep h t1).snoc (kd.keep ha t1), by rw [List.map_append, W.mem]; rfl, fun i x hx => ?_, (W.same.put hF).put hC⟩
  by_cases hi : i < ys.length
  · rw [List.getElem?_append_left hi] at hx
    exact W.len i x hx
  · have h1 := (List.getElem?_eq_some_iff.mp hx).1
    rw [List.length_append, List.length_singleton] at h1
    have : i = ys.length := by omega
    subst this
    rw [List.getElem?_append_right (Nat.le_refl _), Nat.sub_self] at hx
    obtain rfl : y = x := Option.some.inj hx
    exact ⟨hy, hyL⟩
def OrderAt {κ : Type} [DecidableEq κ] (kd : Kd κ) (μ : List Nat → κ) (st : κ → Nat → κ) (z : Str) (H : Hp) (t : Addr) : Prop := ∃ (F C : Addr) (as : List V) (ys : List (List Nat)), H t = some (.tup [.ref F, .ref C]) ∧ OL kd μ (TL.tl z) H F C H (turns st (TL.tl z) (μ []) 40).1 as ys
def spOrder (P : Program) (w : World) (K : PySem.W.Frag) (mg : Str → Option Value) (base : Heap) {κ : Type} [DecidableEq κ] (kd : Kd κ) (D : KdD kd) : Sp := fun vs H Q _ => ∃ (z : Str) (f : Addr) (S : Hp → Prop) (μ : List Nat → κ) (st : κ → Nat → κ), vs = [.str z, .ref f] ∧ FV P w K mg base CX0 8 f S (spMemF kd μ z) ∧ S H ∧ Stab S ∧ z.length ≤ 3 ∧
  (∀ y c, (∀ x ∈ y, x ∈ TL.tl z) → c ∈ TL.tl z → μ (y ++ [c]) = st (μ y) c) ∧ (∀ y, (∀ x ∈ y, x ∈ TL.tl z) → D.ok (μ y)) ∧ (turns st (TL.tl z) (μ []) 40).1.length ≤ 40 ∧ ∀ t H', Same H H' → OrderAt kd μ st z H' t → Q (.ref t) H'
section
variable {P : Program} {w : World} {K : PySem.W.Frag} {mg : Str → Option Value} {base : Heap}
abbrev s__law_order : Stmt := top 39
abbrev N__law_order : List Str := ["_law_letters_here", "_law_memory", "_law_found", "_law_columns", "_law_at", "_law_value", "_law_left"]
abbrev P__law_order : List Str := ["_law_letters_here", "_law_memory"]
theorem sc__law_order : FnScope N__law_order P__law_order (defScope s__law_order) := ⟨rfl, rfl, rfl, by decide +kernel, rfl, by decide +kernel, by decide +kernel⟩

theorem ok_order {κ : Type} [DecidableEq κ] {kd : Kd κ} (D : KdD kd) {f : Addr} {fd : FuncData} (F : Fun K "_law_order" "_law_order" s__law_order f fd) (T : TxtA K mg) : FnOk P w K mg base CX0 9 f fd P__law_order (spOrder P w K mg base kd D) := by
  refine F.ok sc__law_order (fun vs H Q E h => ?_) (fun cdv A outer s H vs Q E hr h => ?_)
  · obtain ⟨z, fm, S, μ, st, rfl, _⟩ := h
    rfl
  · obtain ⟨z, fm, S, μ, st, rfl, FS, hS, hst, hz, hμ, hok, h40, k⟩ := h
    have hu := hu_of hr
    refine ⟨_, (pss_cons (ps_par3 (i := 2) (j := 3) (l := 4) rfl sc__law_order.nd rfl rfl rfl (by decide) (by decide) (by decide) rfl rfl rfl (pa_cons (pe_lst (pa_cons (pcv 1 FS (hr.mono (by decide)) pass0 (pa_cons pe_str pa_nil)) pa_nil)) (pa_cons (pe_lst (pa_cons pe_str pa_nil)) (pa_cons pe_int pa_nil))) (by rfl))
      (pss_cons (ps_while PassesOwn.never (pt_cmpR op_lt (pv 4) (pe_callB call_len (by rfl) T.len PySem.boot_len (pa_cons (pv 3) pa_nil)) (nomark _)) (pss_cons (ps_for PassesOwn.never rfl (pi_str (pv 0)) (pg_name (i := 5) sc__law_order.nd rfl (Or.inl rfl)) (pss_cons (ps_set (i := 6) sc__law_order.nd rfl (Or.inl rfl) (pcv 1 FS (hr.mono (by decide)) pass0 (pa_cons (pe_op op_add_str (pe_ix ix_list (pv 3) (pv 4) (fun _ _ => rfl)) (pv 5)) pa_nil)))
      (pss_one (ps_if (pt_cmpR (op_notInD (hu65 hr)) (pv 6) (pv 2) (by rfl)) (pss_cons (ps_expr (pe_bm PySem.F.plainAttrs_list PySem.F.slot_list_append PySem.F.type_list_append mt_append (pv 2) (pa_cons (pv 6) pa_nil)))
      (pss_one (ps_expr (pe_bm PySem.F.plainAttrs_list PySem.F.slot_list_append PySem.F.type_list_append mt_append (pv 3) (pa_cons (pe_op op_add_str (pe_ix ix_list (pv 3) (pv 4) (fun _ _ => rfl)) (pv 5)) pa_nil))))) pss_nil))))
      (pss_one (ps_set (i := 4) sc__law_order.nd rfl (Or.inl rfl) (pe_op op_add (pv 4) pe_int)))))
      (pss_one (ps_ret (pe_tup (pa_cons (pv 2) (pa_cons (pv 3) pa_nil))))))), ?_⟩
    have hLz : (TL.tl z).length ≤ 3 := by rw [← TL.len_tl]; exact hz
    have e0 : TL.tl (Str.ofString "") = [] := rfl
    refine ⟨rfl, hS, hS, Str.ofString "", rfl, (fun c hc => by rw [e0] at hc; cases hc), (by decide), fun v0 HA sA hat0 => ?_⟩
    rw [e0] at hat0
    refine ⟨by show 1 ≤ sizeLine; decide, fun M hM => ⟨by show 1 ≤ sizeLine; decide, fun C hC => ⟨_, _, _, rfl, ?_⟩⟩⟩
    have hM0 : H M = none := sA.free hM
    have hC0 : H C = none := sA.free ((same_new hM).free hC)
    have nCM : C ≠ M := fun z => by rw [z, upd_same] at hC; cases hC
    have W0 : OL kd μ (TL.tl z) H M C (L2.upd (L2.upd HA M (.lst [v0])) C (.lst [.str ""])) [μ []] [v0] [[]] := by
      refine ⟨by rw [upd_ne nCM.symm, upd_same], by rw [upd_same]; rfl, ⟨rfl, fun i x y e1 e2 => ?_⟩, rfl, fun i y e => ?_, sA.trans ((same_new hM).trans (same_new hC))⟩
      · cases i with
        | zero =>
          cases e1; cases e2
          exact kd.keep hat0 fun b xs e => (same_new hC) _ _ ((same_new hM) _ _ e)
        | succ i => cases e1
      · cases i with
        | zero => cases e; exact ⟨Nat.le_refl _, fun c hc => nomatch hc⟩
        | succ i => cases e
    refine ⟨fun m σ H1 => ∃ (n : Nat) (as : List V) (ys : List (List Nat)) (v5 v6 : Option V), m + n = 101 ∧ (∀ i < n, (turns st (TL.tl z) (μ []) i).2.length < (turns st (TL.tl z) (μ []) i).1.length) ∧ n ≤ 40 ∧
      σ = [some (.str z), some (.ref fm), some (.ref M), some (.ref C), some (.int (n : Int)), v5, v6] ∧ OL kd μ (TL.tl z) H M C H1 (turns st (TL.tl z) (μ []) n).1 as ys, ⟨101, 0, [v0], [[]], none, none, rfl, fun i hi => absurd hi (Nat.not_lt_zero _), by decide, rfl, W0⟩, ?_⟩
    rintro m σ H1 ⟨n, as, ys, v5, v6, hmn, hlt, hn40, rfl, W⟩
    have hn := turns_rows st (TL.tl z) (μ []) hlt
    have lk : (turns st (TL.tl z) (μ []) n).1.length ≤ 40 := Nat.le_trans (turns_len st (TL.tl z) (μ []) hn40) h40
    generalize ep : turns st (TL.tl z) (μ []) n = p at *
    obtain ⟨ks, rows⟩ := p
    dsimp only at *
    have ly : ys.length = ks.length := by rw [← W.mem, List.length_map]
    have la : as.length = ks.length := W.at_.1
    refine ⟨_, rfl, _, rfl, _, _, rfl, Or.inl ⟨_, SqL.of W.col, rfl⟩, _, _, rfl, rfl, _, rfl, ite2 (fun c0 => ?_) (fun c0 => ?_)⟩
    · have c1 : n < ks.length := by
        rw [List.length_map, ly] at c0
        simpa using c0
      obtain ⟨yy, hyy⟩ : ∃ yy, ys[n]? = some yy := ⟨_, List.getElem?_eq_getElem (by omega)⟩
      obtain ⟨mm, hmm⟩ : ∃ mm, ks[n]? = some mm := ⟨_, List.getElem?_eq_getElem (by omega)⟩
      have emm : μ yy = mm := by
        rw [← W.mem, List.getElem?_map, hyy] at hmm
        exact Option.some.inj hmm
      obtain ⟨hyn, hyL⟩ := W.len n yy hyy
      refine ⟨_, fun _ _ h => h, _, rfl, z, rfl, for_it walk_strS (fun j σ H3 => ∃ (as' : List V) (ys' : List (List Nat)) (v5 v6 : Option V), σ = [some (.str z), some (.ref fm), some (.ref M), some (.ref C), some (.int (n : Int)), v5, v6] ∧
        ys <+: ys' ∧ OL kd μ (TL.tl z) H M C H3 (rowOf st mm ((TL.tl z).take j) (ks, [])).1 as' ys')
        ⟨as, ys, v5, v6, rfl, List.prefix_refl _, W⟩ (fun _ _ _ _ _ => trivial) ?_ ?_⟩
      · rintro j x σ H3' H3 hj ⟨as', ys', v5, v6, rfl, hpy, W3⟩ ⟨rfl, cc, hcc, rfl⟩
        have hS3 := hst.same W3.same hS
        have hstep : (rowOf st mm ((TL.tl z).take (j + 1)) (ks, [])).1 = add1 (rowOf st mm ((TL.tl z).take j) (ks, [])).1 (st mm cc) := by
          rw [List.take_add_one, hcc]
          exact congrArg Prod.fst (rowOf_append st mm _ [cc] (ks, []))
        rw [hstep]
        have hlen3 := rowOf_len st mm ((TL.tl z).take j) (ks, [])
        have hjz : ((TL.tl z).take j).length ≤ 3 := by rw [List.length_take]; omega
        have hccm : cc ∈ TL.tl z := List.mem_of_getElem? hcc
        generalize (rowOf st mm ((TL.tl z).take j) (ks, [])).1 = qk at W3 hstep hlen3 ⊢
        dsimp only at hlen3
        have ly3 : ys'.length = qk.length := by rw [← W3.mem, List.length_map]
        have la3 : as'.length = qk.length := W3.at_.1
        have hyy' : ys'[n]? = some yy := by
          obtain ⟨t, ht⟩ := hpy
          rw [← ht, List.getElem?_append_left (by omega)]
          exact hyy
        have hyc : ∀ c ∈ yy ++ [cc], c ∈ TL.tl z := fun c hc => by
          rcases List.mem_append.mp hc with q | q
          · exact hyL c q
          · rw [List.mem_singleton.mp q]; exact hccm
        have etl : TL.tl (mkS yy ++ sg cc) = yy ++ [cc] := by rw [mkS_snoc, tl_mkS]
        have hyl : (mkS yy ++ sg cc).length ≤ 100 := by
          rw [mkS_snoc, mkS_len, List.length_append, List.length_singleton]; omega
        have hsz : (mkS yy).length + (sg cc).length ≤ sizeLine := by
          rw [mkS_len]
          exact small13 (by show yy.length + 1 ≤ _; omega)
        refine ⟨rfl, hS3, _, rfl, _, rfl, C, ys'.map fun l => V.str (mkS l), (n : Int), .str (mkS yy), rfl, rfl, SqL.of W3.col, ?_, _, rfl, mkS yy, sg cc, rfl, rfl, hsz, hS3, _, rfl, (by rw [etl]; exact hyc), hyl, fun v H4 s4 hat => ?_⟩
        · exact at_of' rfl (by rw [List.getElem?_map, hyy']; rfl)
        rw [etl] at hat
        have ekey : μ (yy ++ [cc]) = st mm cc := by rw [hμ yy cc hyL hccm, emm]
        rw [← ekey]
        have W4 := W3.sm s4
        have hokm : D.ok (μ (yy ++ [cc])) := hok _ hyc
        have hokq : ∀ k ∈ qk, D.ok k := fun k hk => by
          rw [← W3.mem] at hk
          obtain ⟨y, hy, rfl⟩ := List.mem_map.mp hk
          obtain ⟨i, hi, e⟩ := List.getElem_of_mem hy
          exact hok _ (W3.len i y (by rw [List.getElem?_eq_getElem hi, e])).2
        refine ⟨_, rfl, _, rfl, D.dat (μ (yy ++ [cc])), qk.map D.dat, D.dp hat, .lst (SqL.of W4.fnd) (D.dps W4.at_), D.shaped hokm, D.shapeds hokq, _, rfl, ?_⟩
        by_cases hin : μ (yy ++ [cc]) ∈ qk
        · rw [(D.any qk _).mpr hin]
          show (if false = true then _ else _)
          rw [if_neg (by decide)]
          have ea : add1 qk (μ (yy ++ [cc])) = qk := if_pos hin
          rw [ea]
          exact ⟨as', ys', _, _, rfl, hpy, W4⟩
        · rw [Bool.eq_false_iff.mpr fun q => hin ((D.any qk _).mp q)]
          show (if true = true then _ else _)
          rw [if_pos rfl]
          have ea : add1 qk (μ (yy ++ [cc])) = qk ++ [μ (yy ++ [cc])] := if_neg hin
          rw [ea]
          have W5 := W4.add nCM hM0 hC0 hat (by rw [List.length_append, List.length_singleton]; have := hpy.length_le; omega) hyc
          have hcol : L2.upd H4 M (.lst (as' ++ [v])) C = some (.lst (ys'.map fun l => V.str (mkS l))) := by
            rw [upd_ne nCM]; exact W4.col
          refine ⟨_, rfl, Or.inl ⟨rfl, _, SqL.of W4.fnd⟩, _, rfl, M, _, _, rfl, rfl, W4.fnd, small1000 (by omega), _, rfl, Or.inl ⟨rfl, _, SqL.of hcol⟩, _, rfl, _, rfl, C, ys'.map fun l => V.str (mkS l), (n : Int), .str (mkS yy), rfl, rfl, SqL.of hcol, ?_, _, rfl, mkS yy, sg cc, rfl, rfl, hsz, C, _, _, rfl, rfl, hcol, small1000 (by rw [List.length_map]; omega), as' ++ [v], ys' ++ [yy ++ [cc]], _, _, rfl, hpy.trans (List.prefix_append _ _), ?_⟩
          · exact at_of' rfl (by rw [List.getElem?_map, hyy']; rfl)
          · rw [mkS_snoc]
            exact W5
      · rintro σ H3 ⟨as', ys', v5, v6, rfl, hpy, W3⟩
        rw [List.take_of_length_le (by rw [← TL.len_tl]; exact Nat.le_refl _)] at W3
        have et : turns st (TL.tl z) (μ []) (n + 1) = ((rowOf st mm (TL.tl z) (ks, [])).1, rows ++ [(rowOf st mm (TL.tl z) (ks, [])).2]) := by
          show turn st (TL.tl z) (turns st (TL.tl z) (μ []) n) = _
          rw [ep]
          unfold turn
          dsimp only
          rw [hn, hmm]
        refine ⟨_, rfl, _, _, rfl, rfl, m - 1, by omega, n + 1, as', ys', _, _, by omega, fun i hi => ?_, by omega, rfl, ?_⟩
        · by_cases e : i = n
          · subst e; rw [ep]; exact hn ▸ c1
          · exact hlt i (by omega)
        · rw [et]; exact W3
    · have c1 : ks.length ≤ n := by
        rw [List.length_map, ly] at c0
        simpa using c0
      have e40 : turns st (TL.tl z) (μ []) 40 = (ks, rows) := by
        rw [turns_stay st (TL.tl z) (μ []) (i := n) (by rw [ep]; dsimp only; omega) 40 hn40, ep]
      refine ⟨_, rfl, _, rfl, by show 2 ≤ sizeLine; decide, fun t ht => k t _ (W.same.trans (same_new ht)) ⟨M, C, as, ys, upd_same, ?_⟩⟩
      rw [e40]
      have W6 := W.sm (same_new (o := .tup [.ref M, .ref C]) ht)
      exact ⟨W6.fnd, W6.col, W6.at_, W6.mem, W6.len, Same.refl _⟩
end
end Vf
set_option Elab.async false
set_option linter.all false
set_option maxRecDepth 100000
set_option maxHeartbeats 4000000
/-! == and len by an own __eq__, __len__: any answer -/
namespace Vf
open PySem PySem.Spec PyProof.Rows L2
section
variable {X : Cx} {CX : CXT} {n : Nat} {C f : Addr} {fd : FuncData} {ps : List Str} {sp : Sp} {E : XK}
theorem run_ok {A : Around} {pins : List (Addr × Obj)} {σ : L2.St} {H : Hp} {s : Shared} {us : List Value} {ws : List V} {Q : VK} (F : FnOk X.prog X.w X.K X.mg X.base CX n f fd ps sp) (hb : Binds X.K fd ps []) (hx : Passes CX X E) (sb : Sub X n A)
    (I : Inv X pins σ H s) (r : Vals ws us) (h : sp ws H Q E) : wpAny (model X.prog X.w) A (call (.ref f) us) (EP X pins σ Q) X.xe s := by
  have e0 : Env0 X.prog X.w X.K X.mg X.base A X.stack s H := by
    have e := I.env0
    exact ⟨by rw [sb.fr]; exact e.frames, e.mod, e.bs, e.bsz, e.funs, e.frf, e.hok, e.bare⟩
  have hl := F.len _ _ _ _ h
  refine wpAny_call (codeAny_mono (F.run A X.stack s H ⟨us, []⟩ us ws _ E sb.room e0 (by
    have hl2 : (us ++ []).length = ps.length := by rw [List.append_nil, ← r.length]; simpa using hl
    have := hb s us I.kIn hl2
    simpa using this) r h) fun r s' hq => ?_)
  cases r with
  | error e => exact hx pins σ H s e s' I hq
  | ok fl =>
    cases fl with
    | ret w => exact I.after hq
    | next => exact False.elim hq
    | brk => exact False.elim hq
    | cont => exact False.elim hq
/-- x op y, x an instance of the class at C whose def for op is at f; y another such instance -/
def rOwnI (C : Addr) (sp : Sp) (E : XK) : R2 := fun x y H Q => ∃ a dx fs b dy gs, x = .ref a ∧ y = .ref b ∧ H a = some (.ins C dx fs) ∧ H b = some (.ins C dy gs) ∧ sp [x, y] H Q E
theorem op_ownI {op : CmpOp} (hop : ∀ a b, compareOp op a b = richCompare op a b) (hs : PySem.W.findIn X.K (.ref C) (cmpInfo op).2.1 = some (some (.ref f))) (hf : PySem.W.isFn X.K (.ref f) = true) (F : FnOk X.prog X.w X.K X.mg X.base CX n f fd ps sp)
    (hr : Room n X.A) (hb : Binds X.K fd ps []) (hx : Passes CX X E) : OpR X (compareOp op) (rOwnI C sp E) := by
  intro pins s σ H x y v u Q I rx ry h
  obtain ⟨a, dx, fs, b, dy, gs, rfl, rfl, ha, hb', q⟩ := h
  cases (show v = Value.ref a from rx)
  cases (show u = Value.ref b from ry)
  obtain ⟨mA, J, _⟩ := ins_get I.hok ha
  obtain ⟨mB, J', _⟩ := ins_get I.hok hb'
  obtain ⟨od, J, _⟩ := J.look
  obtain ⟨od', J', _⟩ := J'.look
  obtain ⟨m, hF⟩ := I.fr
  rw [hop]
  refine PySem.W.cmp_K (op := op) (tb := .ref C) hr.units0 hF I.ok.mod.kin J J'.type (by simp [PySem.W.notFirst]) hs hf ?_
  refine wpAny_mono (run_ok (us := [.ref a, .ref b]) (ws := [.ref a, .ref b]) F hb hx ⟨hr, rfl⟩ I (.cons rfl (.cons rfl .nil)) q) (fun w s' z => ?_) fun _ _ x => x
  obtain ⟨z', H', I', rz, qz⟩ := z
  exact SlX.cmpback rz ⟨z', H', I', rz, qz⟩
/-- x op y, y a tuple -/
def rOwnT (K : PySem.W.Frag) (C : Addr) (sp : Sp) (E : XK) : R2 := fun x y H Q => ∃ a dx fs b ys, x = .ref a ∧ y = .ref b ∧ H a = some (.ins C dx fs) ∧ SqT K H b ys ∧ sp [x, y] H Q E
theorem op_ownT {op : CmpOp} (hop : ∀ a b, compareOp op a b = richCompare op a b) (hs : PySem.W.findIn X.K (.ref C) (cmpInfo op).2.1 = some (some (.ref f))) (hf : PySem.W.isFn X.K (.ref f) = true) (F : FnOk X.prog X.w X.K X.mg X.base CX n f fd ps sp)
    (hr : Room n X.A) (hb : Binds X.K fd ps []) (hx : Passes CX X E) (hn : PySem.W.subIn X.K (.type "tuple") (.ref C) = some false) : OpR X (compareOp op) (rOwnT X.K C sp E) := by
  intro pins s σ H x y v u Q I rx ry h
  obtain ⟨a, dx, fs, b, ys, rfl, rfl, ha, hb', q⟩ := h
  cases (show v = Value.ref a from rx)
  cases (show u = Value.ref b from ry)
  obtain ⟨mA, J, _⟩ := ins_get I.hok ha
  obtain ⟨od, J, _⟩ := J.look
  obtain ⟨m, hF⟩ := I.fr
  obtain ⟨its, r, ht, hz⟩ := I.tuple hb'
  obtain ⟨o, ho, hc, _⟩ := id ht
  have J' : PySem.W.Looks (model X.prog X.w) s.heap (typeOf (.ref b)) (.type "tuple") := fun A Q E s k q => wpAny_typeOf_ref (k _ _ ho) (by rw [hc]; exact q)
  rw [hop]
  refine PySem.W.cmp_K (op := op) (tb := .type "tuple") hr.units0 hF I.ok.mod.kin J J' (by simp [PySem.W.notFirst, hn]) hs hf ?_
  refine wpAny_mono (run_ok (us := [.ref a, .ref b]) (ws := [.ref a, .ref b]) F hb hx ⟨hr, rfl⟩ I (.cons rfl (.cons rfl .nil)) q) (fun w s' z => ?_) fun _ _ x => x
  obtain ⟨z', H', I', rz, qz⟩ := z
  exact SlX.cmpback rz ⟨z', H', I', rz, qz⟩
/-- len(x) by an own __len__ -/
def rLenI (C : Addr) (sp : Sp) (E : XK) : List V → Hp → VK → Prop := fun xs H Q => ∃ a dx fs, xs = [.ref a] ∧ H a = some (.ins C dx fs) ∧ sp [.ref a] H (fun z H' => ∃ k : Nat, z = .int k ∧ k ≤ sizeLine ∧ Q z H') E
theorem call_lenI (hs : PySem.W.findIn X.K (.ref C) "__len__" = some (some (.ref f))) (hf : PySem.W.isFn X.K (.ref f) = true) (F : FnOk X.prog X.w X.K X.mg X.base CX n f fd ps sp)
    (hr : Room (n + 1) X.A) (hb : Binds X.K fd ps []) (hx : Passes CX X E) : CallR X (.builtin "len") (rLenI C sp E) := by
  intro pins s σ H xs us Q I r h
  obtain ⟨a, dx, fs, rfl, ha, q⟩ := h
  obtain ⟨u, rfl, ru⟩ := vals1 r
  cases (show u = Value.ref a from ru)
  obtain ⟨mA, J, _⟩ := ins_get I.hok ha
  obtain ⟨od, J, _⟩ := J.look
  have hl := line63
  have hsz : sizeLine = 16777216 := sizeLine_eq
  refine Calls.call_function_entry PySem.kind_len PySem.plain_len PySem.entry_len (PySem.args_len1 _) ?_
  unfold Builtin.«len»
  refine wpAny_bind (m := oneArg "len" _) (wpAny_pure ?_)
  refine wpAny_bind (m := callSpecial? (.ref a) (PySem.Str.ofString "__len__")) (PySem.W.special_fn I.kIn J hs (beq_iff_eq.mp hf) (wpAny_mono (run_ok (us := [.ref a]) (ws := [.ref a]) F hb hx ?_ I (.cons rfl .nil) q) (fun w s' z => ?_) fun _ _ x => x))
  · exact ⟨hr.in1, rfl⟩
  · obtain ⟨z', H', I', rz, k, rfl, hk, qz⟩ := z
    obtain ⟨t, rfl⟩ := (show ∃ t, w = Value.int k t from rz)
    refine wpAny_bind (wpAny_holding (wpAny_pure ?_))
    refine wpAny_bind (wpAny_letGo ?_)
    show wpAny _ _ (if ((k : Nat) : Int) < 0 then _ else _) _ _ _
    rw [if_neg (by omega)]
    show wpAny _ _ (if ((k : Nat) : Int) ≥ 2 ^ 63 then _ else _) _ _ _
    rw [if_neg (by omega)]
    exact wpAny_bind (wpAny_mkInt (wpAny_pure ⟨_, rfl, .int k, H', I'.tok _, ⟨_, rfl⟩, qz⟩))
end
end Vf
set_option Elab.async false
set_option linter.all false
set_option maxRecDepth 100000
set_option maxHeartbeats 4000000
namespace Vf
open PySem L2 PyProof.Rows
open NdefX LamX
def spDueF (δ : List Nat → Int) (z : Str) : Sp := fun vs H Q _ => ∃ y : Str, vs = [.str y] ∧ (∀ c ∈ TL.tl y, c ∈ TL.tl z) ∧ y.length ≤ 100 ∧ ∀ H', Same H H' → Q (.int (δ (TL.tl y))) H'
structure TxtLn (K : PySem.W.Frag) (C fLn : Addr) : Prop where
  lns : PySem.W.findIn K (.ref C) "__len__" = some (some (.ref fLn))
  lnf : PySem.W.isFn K (.ref fLn) = true
structure TxtO (K : PySem.W.Frag) (mg : Str → Option Value) (fOr : Addr) : Prop extends TxtA K mg where
  m_law_order : mg "_law_order" = some (.ref fOr)
  k_law_order : PySem.W.keepIn K (.ref fOr) = true
/-- a made code is as the law asks -/
structure FitsF {κ : Type} [DecidableEq κ] (N : Nat) (st : κ → Nat → κ) (s0 : κ) (δ : List Nat → Int) (L : List Nat) (rs : List Row) (es : List Int) : Prop where
  len : (turns st L s0 N).1.length ≤ N
  num : rs.length = (turns st L s0 N).1.length
  goal : rs.map (fun r => r.map Prod.fst) = (turns st L s0 N).2.map fun row => row.map fun (n : Nat) => (n : Int)
  due : ∀ y, (∀ c ∈ y, c ∈ L) → lenR rs es L y = δ y
  good : GoodS L.length rs
  ends : es.length = rs.length
  pos : 0 < rs.length
section
variable {P : Program} {w : World} {K : PySem.W.Frag} {mg : Str → Option Value} {base : Heap}
def spLn (K : PySem.W.Frag) (C : Addr) : Sp := fun vs H Q _ => ∃ (o : Addr) (z : Str) (rs : List Row) (es : List Int), vs = [.ref o] ∧ CodeAt K C H o z rs es ∧ ∀ H', Same H H' → Q (.int rs.length) H'
abbrev s_Code___len__ : Stmt := inClass (top 18) 2
abbrev N_Code___len__ : List Str := ["self"]
abbrev P_Code___len__ : List Str := ["self"]
theorem sc_Code___len__ : FnScope N_Code___len__ P_Code___len__ (defScope s_Code___len__) := ⟨rfl, rfl, rfl, by decide +kernel, rfl, by decide +kernel, by decide +kernel⟩

theorem ok_ln {f C fCS B CB fB' : Addr} {fd : FuncData} (F : Fun K "__len__" "Code.__len__" s_Code___len__ f fd) (T : TxtK K mg C fCS B CB fB') : FnOk P w K mg base CX0 1 f fd P_Code___len__ (spLn K C) := by
  refine F.ok sc_Code___len__ (fun vs H Q E h => ?_) (fun cdv A outer s H vs Q E hr h => ?_)
  · obtain ⟨o, z, rs, es, rfl, _⟩ := h
    rfl
  · obtain ⟨o, z, rs, es, rfl, ⟨dx, R, Ev, ho, hR, hE⟩, k⟩ := h
    refine ⟨_, (pss_one (ps_ret (pe_callB call_len (by rfl) T.len PySem.boot_len (pa_cons (pe_fld (pv 0) rfl) pa_nil)))), ?_⟩
    obtain ⟨r, xs, rfl, h1, h2⟩ := hR.tupE
    refine ⟨_, rfl, o, C, dx, _, _, rfl, ho, T.cl, T.nR, cf_rows _ _ _, _, _, rfl, Or.inr ⟨_, h1, rfl⟩, ?_⟩
    rw [show xs.length = rs.length by rw [h2.length, List.length_map]]
    exact k H (Same.refl H)
def spIsRight (P : Program) (w : World) (K : PySem.W.Frag) (mg : Str → Option Value) (base : Heap) {κ : Type} [DecidableEq κ] (kd : Kd κ) (D : KdD kd) (C : Addr) : Sp := fun vs H Q _ => ∃ (o : Addr) (z : Str) (rs : List Row) (es : List Int) (fm fu cl : Addr) (S S' : Hp → Prop) (μ : List Nat → κ) (δ : List Nat → Int) (st : κ → Nat → κ) (ys : List (List Nat)),
  vs = [.ref o, .str z, .ref fm, .ref fu, .ref cl] ∧ CodeAt K C H o z rs es ∧ FV P w K mg base CX0 8 fm S (spMemF kd μ z) ∧ FV P w K mg base CX0 8 fu S' (spDueF δ z) ∧ S H ∧ S' H ∧ Stab S ∧ Stab S' ∧ z.length ≤ 3 ∧ 1 ≤ z.length ∧
  (∀ y c, (∀ x ∈ y, x ∈ TL.tl z) → c ∈ TL.tl z → μ (y ++ [c]) = st (μ y) c) ∧ (∀ y, (∀ x ∈ y, x ∈ TL.tl z) → D.ok (μ y)) ∧ FitsF 40 st (μ []) δ (TL.tl z) rs es ∧
  H cl = some (.lst (ys.map fun l => V.str (mkS l))) ∧ ys.length ≤ 1000 ∧ (∀ y ∈ ys, y.length ≤ 100 ∧ ∀ x ∈ y, x ∈ TL.tl z) ∧ ∀ H', Same H H' → Q (.bl true) H'
abbrev s__law_is_right : Stmt := top 40
abbrev N__law_is_right : List Str := ["_law_made", "_law_letters_here", "_law_memory", "_law_due", "_law_columns", "_law_found", "_law_first", "_law_state", "_law_goals", "_law_value", "_law_column_here", "_law_goal", "_law_bits_here"]
abbrev P__law_is_right : List Str := ["_law_made", "_law_letters_here", "_law_memory", "_law_due", "_law_columns"]
theorem sc__law_is_right : FnScope N__law_is_right P__law_is_right (defScope s__law_is_right) := ⟨rfl, rfl, rfl, by decide +kernel, rfl, by decide +kernel, by decide +kernel⟩

theorem ok_isright {κ : Type} [DecidableEq κ] {kd : Kd κ} (D : KdD kd) {f fOr fLn fLen C CV fCS B CB fB' : Addr} {fd fdOr fdLn fdLen : FuncData} (F : Fun K "_law_is_right" "_law_is_right" s__law_is_right f fd) (T : TxtO K mg fOr) (TK : TxtK K mg C fCS B CB fB') (TL' : TxtLn K C fLn)
    (FOr : Fun K "_law_order" "_law_order" s__law_order fOr fdOr) (b_law_order : Binds K fdOr P__law_order []) (FLn : Fun K "__len__" "Code.__len__" s_Code___len__ fLn fdLn) (bLn : Binds K fdLn P_Code___len__ [])
    (mtLen : Meth K C "length" fLen) (GLen : FnOk P w K mg base (L2.CX P w) 4 fLen fdLen P_Code_length (spLen K C CV)) (bLen : Binds K fdLen P_Code_length []) : FnOk P w K mg base CX0 10 f fd P__law_is_right (spIsRight P w K mg base kd D C) := by
  have G_law_order : FnOk P w K mg base CX0 9 fOr fdOr P__law_order (spOrder P w K mg base kd D) := ok_order D FOr T.toTxtA
  have GLn : FnOk P w K mg base CX0 1 fLn fdLn P_Code___len__ (spLn K C) := ok_ln FLn TK
  have GLen0 := Vf.FnOk.calm GLen
  refine F.ok sc__law_is_right (fun vs H Q E h => ?_) (fun cdv A outer s H vs Q E hr h => ?_)
  · obtain ⟨o, z, rs, es, fm, fu, cl, S, S', μ, δ, st, ys, rfl, _⟩ := h
    rfl
  · obtain ⟨o, z, rs, es, fm, fu, cl, S, S', μ, δ, st, ys, rfl, hC, FS, FU, hS, hS', hst, hst', hz, hz1, hμ, hok, FT, hcl, hyl, hys, k⟩ := h
    have hu := hu_of hr
    refine ⟨_, (pss_cons (ps_asg (pe_call G_law_order (hr.mono (by decide)) (by rfl) T.m_law_order T.k_law_order b_law_order .nil pass0 (pa_cons (pv 1) (pa_cons (pv 2) pa_nil))) (pg_tup (by rfl) (pgs_cons (pg_name (i := 5) sc__law_is_right.nd rfl (Or.inr rfl)) (pgs_cons (pg_name (i := 6) sc__law_is_right.nd rfl (Or.inr rfl)) pgs_nil))))
      (pss_cons (ps_if (PW.pt (pw_or (pt_cmpR op_ne (pe_fld (pv 0) rfl) (pv 1) (nomark _)) (pw_or1 (pt_cmpR op_ne (pe_callB (call_lenI TL'.lns TL'.lnf GLn (hr.mono (by decide)) bLn pass0) (by rfl) T.len PySem.boot_len (pa_cons (pv 0) pa_nil)) (pe_callB call_len (by rfl) T.len PySem.boot_len (pa_cons (pv 5) pa_nil)) (nomark _))))) (pss_one (ps_ret pe_bl)) pss_nil)
      (pss_cons (ps_for PassesOwn.never rfl (pi_range1 (by rfl) T.range (pa_cons (pe_callB call_len (by rfl) T.len PySem.boot_len (pa_cons (pv 5) pa_nil)) pa_nil)) (pg_name (i := 7) sc__law_is_right.nd rfl (Or.inr rfl)) (pss_cons (ps_setLc (i := 8) (own := [("_law_value", 9)]) (g := gName 9) (by rfl) sc__law_is_right.nd rfl rfl (sw_true rfl rfl rfl (by decide +kernel)) (pi_str (pv 1)) (blkOk_by (own := [("_law_value", 9)]) (N := N__law_is_right) (sc := defScope s__law_is_right) (by decide +kernel)) (fun _ _ _ _ _ => pg_name (i := 9) sc__law_is_right.nd rfl (Or.inl rfl)) (fun _ _ _ _ _ => pts_nil) (fun _ _ _ _ _ => (pe_bmK (K := K) rfl PySem.F.plainAttrs_list PySem.F.slot_list_index PySem.F.type_list_index (mt_indexDK (K := K) rfl (hu65 hr)) (pv 5) (pa_cons (pcv 2 FS (hr.mono (by decide)) pass0 (pa_cons (pe_op op_add_str (pe_ix (ix_listK (K := K) rfl) (pv 6) (pv 7) (fun _ _ => rfl)) (pv 9)) pa_nil)) pa_nil))))
      (pss_one (ps_if (pt_cmpR (op_neD hr.units) (pe_lc (own := [("_law_goal", 11), ("_law_bits_here", 12)]) (g := gTup K 2 (gCons (gName 11) (gCons (gName 12) gNil))) (by rfl) sc__law_is_right.nd (pi_tup (pe_ix ix_tup (pe_fld (pv 0) rfl) (pv 7) (fun _ _ => rfl))) (blkOk_by (own := [("_law_goal", 11), ("_law_bits_here", 12)]) (N := N__law_is_right) (sc := defScope s__law_is_right) (by decide +kernel)) (fun _ _ _ _ _ => (pg_tup (by rfl) (pgs_cons (pg_name (i := 11) sc__law_is_right.nd rfl (Or.inl rfl)) (pgs_cons (pg_name (i := 12) sc__law_is_right.nd rfl (Or.inl rfl)) pgs_nil)))) (fun _ _ _ _ _ => pts_nil) (fun _ _ _ _ _ => (pv 11))) (pv 8) (nomark _)) (pss_one (ps_ret pe_bl)) pss_nil))))
      (pss_one (ps_ret (pe_cmpR (op_eqD hr.units) (pe_lc (own := [("_law_column_here", 10)]) (g := gName 10) (by rfl) sc__law_is_right.nd (pi_list (pv 4)) (blkOk_by (own := [("_law_column_here", 10)]) (N := N__law_is_right) (sc := defScope s__law_is_right) (by decide +kernel)) (fun _ _ _ _ _ => pg_name (i := 10) sc__law_is_right.nd rfl (Or.inl rfl)) (fun _ _ _ _ _ => (pts_one (pt_cmpR op_ne (pe_meth (pv 0) TK.cl mtLen GLen0 (hr.mono (by decide)) bLen .nil pass0 (pa_cons (pv 10) pa_nil)) (pcv 3 FU (hr.mono (by decide)) pass0 (pa_cons (pv 10) pa_nil)) (nomark _)))) (fun _ _ _ _ _ => (pv 10))) (pe_lst pa_nil) (nomark _))))))), ?_⟩
    have hLz : (TL.tl z).length ≤ 3 := by rw [← TL.len_tl]; exact hz
    refine ⟨_, rfl, _, rfl, z, fm, S, μ, st, rfl, FS, hS, hst, hz, hμ, hok, FT.len, fun t H1 s1 ⟨M, C5, as, zs, ht, W⟩ => ?_⟩
    refine ⟨t, _, rfl, SqT.of ht, rfl, _, _, rfl, _, _, rfl, rfl, ?_⟩
    have hC1 : CodeAt K C H1 o z rs es := hC.same s1
    obtain ⟨dx, RR, Ev, ho, hR, hE⟩ := id hC1
    have ly : zs.length = (turns st (TL.tl z) (μ []) 40).1.length := by rw [← W.mem, List.length_map]
    have la : as.length = (turns st (TL.tl z) (μ []) 40).1.length := W.at_.1
    have h40 := FT.len
    have hnum := FT.num
    refine ⟨_, rfl, o, C, dx, _, _, rfl, ho, TK.cl, TK.nL, cf_letters _ _ _, _, rfl, rfl, _, rfl, ?_⟩
    rw [decide_eq_true (rfl : V.str z = V.str z)]
    show (if false = true then _ else _)
    rw [if_neg (by decide)]
    refine ⟨_, rfl, o, dx, _, rfl, ho, o, z, rs, es, rfl, hC1, fun H2 s2 => ⟨rs.length, rfl, Nat.le_of_lt (small1000 (by omega)), ?_⟩⟩
    have ho2 := s2 _ _ ho
    have W2 := W.sm s2
    have hR2 := hR.mv (Kl.same s2)
    refine ⟨_, rfl, _, _, rfl, Or.inl ⟨_, SqL.of W2.fnd, rfl⟩, rfl, _, rfl, ?_⟩
    have e1 : decide (V.int (rs.length : Int) = V.int (as.length : Int)) = true := decide_eq_true (by rw [la, hnum])
    rw [e1]
    show (if false = true then _ else _)
    rw [if_neg (by decide)]
    have F40 := full_of (st := st) (L := TL.tl z) (s0 := μ []) (n := 40) h40
    have hgoal := FT.goal
    have hgood := FT.good
    have hdue := FT.due
    generalize (turns st (TL.tl z) (μ []) 40).1 = ks at W2 h40 hnum ly la F40
    generalize (turns st (TL.tl z) (μ []) 40).2 = rows at F40 hgoal
    have hokq : ∀ k ∈ ks, D.ok k := fun k hk => by
      rw [← W2.mem] at hk
      obtain ⟨y, hy, rfl⟩ := List.mem_map.mp hk
      obtain ⟨i, hi, e⟩ := List.getElem_of_mem hy
      exact hok _ (W2.len i y (by rw [List.getElem?_eq_getElem hi, e])).2
    obtain ⟨Ra, rxs, rfl, hRs, hRd⟩ := hR2.tupE
    have hS2 := hst.same (s1.trans s2) hS
    refine ⟨_, rfl, _, as.length, rfl, Or.inl ⟨_, SqL.of W2.fnd, rfl⟩, (as.length : Int), rfl, by omega, by omega, for_range (n := as.length) (fun i σ H3 => ∃ v7 v8 v9 v10 v11 v12 : Option V, σ = [some (.ref o), some (.str z), some (.ref fm), some (.ref fu), some (.ref cl), some (.ref M), some (.ref C5), v7, v8, v9, v10, v11, v12] ∧ Same H2 H3)
      ⟨none, none, none, none, none, none, rfl, Same.refl _⟩ ?_ ?_⟩
    · rintro i σ H3 hi ⟨v7, v8, v9, v10, v11, v12, rfl, s3⟩
      obtain ⟨yy, hyy⟩ : ∃ yy, zs[i]? = some yy := ⟨_, List.getElem?_eq_getElem (by omega)⟩
      obtain ⟨mm, hmm⟩ : ∃ mm, ks[i]? = some mm := ⟨_, List.getElem?_eq_getElem (by omega)⟩
      obtain ⟨row, hrow⟩ : ∃ row, rows[i]? = some row := ⟨_, List.getElem?_eq_getElem (by rw [F40.len]; omega)⟩
      obtain ⟨rr, hrr⟩ : ∃ rr, rs[i]? = some rr := ⟨_, List.getElem?_eq_getElem (by omega)⟩
      have emm : μ yy = mm := by
        rw [← W2.mem, List.getElem?_map, hyy] at hmm
        exact Option.some.inj hmm
      obtain ⟨hyn, hyL⟩ := W2.len i yy hyy
      obtain ⟨mm', hmm', erow, hin⟩ := F40.row i row hrow
      obtain rfl : mm = mm' := by rw [hmm] at hmm'; exact Option.some.inj hmm'
      have err : rr.map Prod.fst = (TL.tl z).map fun c => ((num ks (st mm c) : Nat) : Int) := by
        have := congrArg (fun l => l[i]?) hgoal
        simp only [List.getElem?_map, hrr, hrow, Option.map_some, Option.some.injEq] at this
        rw [this, erow, List.map_map]
        rfl
      have W3 := W2.sm s3
      refine ⟨_, rfl, z, rfl, fun Dl hD => lc_it walk_strS (fun j H4 => H4 Dl = some (.lst ((((TL.tl z).take j).map fun c => ((num ks (st mm c) : Nat) : Int)).map V.int)) ∧ Same H3 H4) ⟨upd_same, same_new hD⟩ (fun _ _ _ _ => trivial) ?_ ?_⟩
      · rintro j x H4' H4 hj ⟨hD4, s4⟩ ⟨rfl, c, hc, rfl⟩
        have hcL : c ∈ TL.tl z := List.mem_of_getElem? hc
        have hyc : ∀ d ∈ yy ++ [c], d ∈ TL.tl z := fun d hd => by
          rcases List.mem_append.mp hd with q | q
          · exact hyL d q
          · rw [List.mem_singleton.mp q]; exact hcL
        have etl : TL.tl (mkS yy ++ sg c) = yy ++ [c] := by rw [mkS_snoc, tl_mkS]
        have hyl : (mkS yy ++ sg c).length ≤ 100 := by
          rw [mkS_snoc, mkS_len, List.length_append, List.length_singleton]; omega
        have hsz : (mkS yy).length + (sg c).length ≤ sizeLine := by
          rw [mkS_len]
          exact small13 (by show yy.length + 1 ≤ _; omega)
        have W4 := W3.sm s4
        have hS4 := hst.same (s3.trans s4) hS2
        refine ⟨rfl, ?_⟩
        refine lcYes ?_
        refine ⟨_, rfl, Or.inl ⟨rfl, _, SqL.of W4.fnd⟩, rfl, hS4, _, rfl, _, rfl, C5, zs.map fun l => V.str (mkS l), (0 : Int) + i, .str (mkS yy), rfl, rfl, SqL.of W4.col, ?_, _, rfl, mkS yy, sg c, rfl, rfl, hsz, hS4, _, rfl, (by rw [etl]; exact hyc), hyl, fun v H5 s5 hat => ?_⟩
        · exact at_of' (show (0 : Int) + (i : Nat) = ((i : Nat) : Int) by omega) (by rw [List.getElem?_map, hyy]; rfl)
        rw [etl, hμ yy c hyL hcL, emm] at hat
        have hkin := hin c hcL
        have W5 := W4.sm s5
        refine ⟨M, _, D.dat (st mm c), ks.map D.dat, num ks (st mm c), D.dat (st mm c), rfl, rfl, .lst (SqL.of W5.fnd) (D.dps W5.at_), D.dp hat, D.shapeds hokq, D.shaped (hokq _ hkin), by rw [List.getElem?_map, num_get hkin]; rfl, by rw [D.eqv]; exact decide_eq_true rfl, fun m' z' hm' hz' => ?_, _, s5 _ _ hD4, ?_, ?_, (s4.trans s5).put hD⟩
        · rw [List.getElem?_map] at hz'
          obtain ⟨k', hk', rfl⟩ := Option.map_eq_some_iff.mp hz'
          rw [D.eqv]
          refine decide_eq_false fun e => ?_
          subst e
          have hnn : num ks (st mm c) = m' := num_of F40.nd hk'
          omega
        · rw [List.length_map, List.length_map, List.length_take]; exact small1000 (by omega)
        · rw [upd_same, List.take_add_one, hc]
          simp
      · rintro H4 ⟨hD4, s4⟩
        rw [List.take_of_length_le (by rw [← TL.len_tl]; exact Nat.le_refl _)] at hD4
        obtain ⟨v, hv, hvD⟩ := hRd.get (i := i) (d := rowT rr) (by rw [List.getElem?_map, hrr]; rfl)
        have sx : Same H2 H4 := s3.trans s4
        obtain ⟨ra, ts, rfl, hrs, hrd⟩ := (hvD.mv (Kl.same sx)).tupE
        have hlts : ts.length = rr.length := by rw [hrd.length, List.length_map]
        refine ⟨_, rfl, o, C, dx, _, _, rfl, sx _ _ ho2, TK.cl, TK.nR, cf_rows _ _ _, _, rfl, Ra, _, (0 : Int) + i, .ref ra, rfl, rfl, (Kl.same sx).seqT hRs, at_of' (by omega) hv, ra, rfl, ⟨_, hrs⟩, fun D2 hD2 => lc_tup (fun j H5 => H5 D2 = some (.lst (((rr.take j).map Prod.fst).map V.int)) ∧ Same H4 H5) ⟨upd_same, same_new hD2⟩ (fun j H5 _ q => (Kl.same q.2).seqT hrs) ?_ ?_⟩
        · rintro j x H5 hx ⟨hD5, s5⟩
          obtain ⟨t3, hj, rfl, ht3⟩ := tup_at (hrd.mv (Kl.same s5)) hx
          refine ⟨t3, _, rfl, ht3, rfl, _, _, rfl, _, _, rfl, rfl, rfl, ?_⟩
          refine lcYes ?_
          refine ⟨_, rfl, _, hD5, ?_, ?_, s5.put hD2⟩
          · rw [List.length_map, List.length_map, List.length_take]
            exact small1000 (by
              have : rr.length = (TL.tl z).length := by
                have := congrArg List.length err
                simpa using this
              omega)
          · rw [upd_same, List.take_add_one, List.getElem?_eq_getElem hj, List.map_append, List.map_append]
            rfl
        · rintro H5 ⟨hD5, s5⟩
          rw [hlts, List.take_of_length_le (Nat.le_refl _), err] at hD5
          have hD45 := s5 _ _ hD4
          refine ⟨_, rfl, intsD _, intsD _, .lst (SqL.of hD5) (dpAll_ints K H5 _), .lst (SqL.of hD45) (dpAll_ints K H5 _), shaped_intsD _, shaped_intsD _, _, rfl, ?_⟩
          rw [eqv_intsD, decide_eq_true rfl]
          show (if false = true then _ else _)
          rw [if_neg (by decide)]
          exact ⟨_, _, _, _, _, _, rfl, (s3.trans s4).trans s5⟩
    · rintro σ H3 ⟨v7, v8, v9, v10, v11, v12, rfl, s3⟩
      have s13 : Same H H3 := (s1.trans s2).trans s3
      have hcl3 := s13 _ _ hcl
      refine ⟨_, rfl, cl, rfl, ⟨_, SqL.of hcl3⟩, fun Dl hD => lc_list (K := K) (a := cl) (xs := ys.map fun l => V.str (mkS l)) (fun j H4 => H4 Dl = some (.lst []) ∧ Same H3 H4) ⟨upd_same, same_new hD⟩ (fun j H4 _ q => SqL.of (q.2 _ _ hcl3)) ?_ ?_⟩
      · rintro j x H4 hx ⟨hD4, s4⟩
        rw [List.getElem?_map] at hx
        obtain ⟨l, hl, rfl⟩ := Option.map_eq_some_iff.mp hx
        obtain ⟨hl40, hlL⟩ := hys l (List.mem_of_getElem? hl)
        have hlL' : ∀ x ∈ TL.tl (mkS l), x ∈ TL.tl z := by rw [tl_mkS]; exact hlL
        have hstr : strange z (mkS l) = none := List.findIdx?_eq_none_iff.mpr fun x hx => by simpa using hlL' x hx
        have s14 := s13.trans s4
        obtain ⟨dx4, R4, Ev4, ho4, hR4, hE4⟩ := id (hC.same s14)
        refine ⟨rfl, ?_⟩
        refine ⟨_, rfl, o, dx4, _, rfl, ho4, cf_no _ _ _ (by decide +kernel) (by decide +kernel) (by decide +kernel), _, rfl, o, z, mkS l, rs, es, rfl, hC.same s14, (by rw [TL.len_tl]; exact hgood), FT.ends, FT.pos, by omega, fun _ H5 s5 => ?_, fun i hi => absurd hi (by rw [hstr]; exact fun e => nomatch e)⟩
        have hS5 := hst'.same (s14.trans s5) hS'
        refine ⟨rfl, hS5, _, rfl, hS5, mkS l, rfl, hlL', by rw [mkS_len]; exact hl40, fun H6 s6 => ?_⟩
        rw [tl_mkS, hdue l hlL]
        refine ⟨rfl, _, rfl, ?_⟩
        rw [decide_eq_true (rfl : V.int (δ l) = V.int (δ l))]
        show (if false = true then _ else _)
        rw [if_neg (by decide)]
        exact ⟨s6 _ _ (s5 _ _ hD4), (s4.trans s5).trans s6⟩
      · rintro H4 ⟨hD4, s4⟩
        refine ⟨by show 0 ≤ sizeLine; decide, fun q hq => ?_⟩
        have sq : Same H4 (L2.upd H4 q (.lst [])) := same_new hq
        refine ⟨intsD [], intsD [], .lst (SqL.of (sq _ _ hD4)) .nil, .lst (SqL.of upd_same) .nil, shaped_intsD [], shaped_intsD [], ?_⟩
        rw [eqv_intsD, decide_eq_true rfl]
        exact k _ ((s13.trans s4).trans sq)
end
end Vf
set_option Elab.async false
set_option linter.all false
set_option maxRecDepth 100000
set_option maxHeartbeats 4000000
namespace Vf
open PySem L2 PyProof.Rows
theorem rowsMade_fst {κ : Type} {bt : κ → Nat → Int} {L : List Nat} : ∀ {ks : List κ} {rows : List (List Nat)}, rows.length = ks.length → (∀ row ∈ rows, row.length = L.length) → (rowsMade bt L ks rows).map (fun r => r.map Prod.fst) = rows.map fun row => row.map fun (n : Nat) => (n : Int)
  | [], [], _, _ => rfl
  | k :: ks, row :: rows, h, hr => by
    have ih := rowsMade_fst (bt := bt) (L := L) (ks := ks) (rows := rows) (by simpa using h) fun r q => hr r (List.mem_cons_of_mem _ q)
    show (List.zipWith (fun c (n : Nat) => ((n : Int), bt k c)) L row).map Prod.fst :: (rowsMade bt L ks rows).map _ = _
    rw [ih, List.map_cons]
    congr 1
    have hl := hr row List.mem_cons_self
    refine List.ext_getElem (by simp [hl]) fun i h1 h2 => by simp
theorem pay_snoc {κ : Type} [DecidableEq κ] (st : κ → Nat → κ) (bt : κ → Nat → Int) (c : Nat) : ∀ (y : List Nat) (k : κ), pay st bt k (y ++ [c]) = pay st bt k y + bt (y.foldl st k) c
  | [], k => by simp [pay]
  | d :: y, k => by
    show bt k d + pay st bt (st k d) (y ++ [c]) = bt k d + pay st bt (st k d) y + bt (y.foldl st (st k d)) c
    rw [pay_snoc st bt c y (st k d), Int.add_assoc]
theorem sum_snoc (xs : List Int) (x : Int) : (xs ++ [x]).sum = xs.sum + x := by simp
theorem snoc_ind {p : List Nat → Prop} (h0 : p []) (h : ∀ y c, p y → p (y ++ [c])) (y : List Nat) : p y := by
  have : ∀ n (y : List Nat), y.length = n → p y := by
    intro n
    induction n with
    | zero => intro y hy; rw [List.length_eq_zero_iff.mp hy]; exact h0
    | succ n ih =>
      intro y hy
      have hne : y ≠ [] := fun e => by rw [e] at hy; cases hy
      rw [← List.dropLast_concat_getLast hne]
      exact h _ _ (ih _ (by rw [List.length_dropLast]; omega))
  exact this _ y rfl
theorem turns_pos {κ : Type} [DecidableEq κ] (st : κ → Nat → κ) (L : List Nat) (s0 : κ) (n : Nat) : 0 < (turns st L s0 n).1.length := Nat.lt_of_lt_of_le (by decide : 0 < 1) (turns_len st L s0 (Nat.zero_le n))
theorem made_lens {κ : Type} [DecidableEq κ] {st : κ → Nat → κ} {bt : κ → Nat → Int} {en : κ → Int} {L : List Nat} {s0 : κ} {n : Nat} (h : (turns st L s0 n).1.length ≤ n) :
    ((turns st L s0 n).1.map en).length = (rowsMade bt L (turns st L s0 n).1 (turns st L s0 n).2).length ∧ 0 < (rowsMade bt L (turns st L s0 n).1 (turns st L s0 n).2).length := by
  have F := full_of (n := n) h
  have hp := turns_pos st L s0 n
  have e : (rowsMade bt L (turns st L s0 n).1 (turns st L s0 n).2).length = (turns st L s0 n).1.length := by
    unfold rowsMade
    rw [List.length_zipWith, F.len, Nat.min_self]
  rw [e, List.length_map]
  exact ⟨rfl, hp⟩
theorem fitsF_of {κ : Type} [DecidableEq κ] {st : κ → Nat → κ} {bt : κ → Nat → Int} {en : κ → Int} {L : List Nat} {s0 : κ} {δ : List Nat → Int} {N : Nat} (hle : (turns st L s0 N).1.length ≤ N) (hd : ∀ y, (∀ c ∈ y, c ∈ L) → pay st bt s0 y + en (y.foldl st s0) = δ y) :
    FitsF N st s0 δ L (rowsMade bt L (turns st L s0 N).1 (turns st L s0 N).2) ((turns st L s0 N).1.map en) := by
  have F := full_of (n := N) hle
  have hrow : ∀ row ∈ (turns st L s0 N).2, row.length = L.length := fun row hr => by
    obtain ⟨i, hi, e⟩ := List.getElem_of_mem hr
    obtain ⟨m, _, h4, _⟩ := F.row i row (by rw [List.getElem?_eq_getElem hi, e])
    rw [h4, List.length_map]
  refine ⟨hle, ?_, rowsMade_fst F.len hrow, fun y hy => ?_, made_goodS F, (made_lens hle).1, (made_lens (en := en) hle).2⟩
  · unfold rowsMade
    rw [List.length_zipWith, F.len, Nat.min_self]
  · have := made_len (bt := bt) (en := en) F hy
    rw [← hd y hy, ← this]
    rfl
theorem step_fst (rs : List Row) (L : List Nat) (s : Int × Int) (c : Nat) : (stepR rs L s c).1 = (stepR rs L (s.1, 0) c).1 := rfl
theorem step_snd (rs : List Row) (L : List Nat) (s : Int × Int) (c : Nat) : (stepR rs L s c).2 = s.2 + (stepR rs L (s.1, 0) c).2 := by
  unfold stepR
  dsimp only
  rw [Int.zero_add]
theorem walk_snoc (rs : List Row) (L : List Nat) (s : Int) (y : List Nat) (c : Nat) : walkR rs L s (y ++ [c]) = stepR rs L (walkR rs L s y) c := by
  unfold walkR
  rw [List.foldl_append]
  rfl
/-- memories of times -/
def muT (rs : List Row) (L : List Nat) (y : List Nat) : Key := .inl (walkR rs L 0 y).1
theorem muT_snoc (rs : List Row) (L : List Nat) (y : List Nat) (c : Nat) : muT rs L (y ++ [c]) = tst rs L (muT rs L y) c := by
  unfold muT
  rw [walk_snoc, step_fst]
  rfl
theorem muT_fold (rs : List Row) (L : List Nat) (y : List Nat) : y.foldl (tst rs L) (Sum.inl 0 : Key) = muT rs L y :=
  snoc_ind (p := fun y => y.foldl (tst rs L) (Sum.inl 0 : Key) = muT rs L y) rfl (fun y c ih => by rw [List.foldl_append, List.foldl_cons, List.foldl_nil, ih, muT_snoc]) y
theorem payT (rs : List Row) (L : List Nat) (factor : Int) (y : List Nat) : pay (tst rs L) (tbt rs L factor) (Sum.inl 0 : Key) y = (walkR rs L 0 y).2 * factor := by
  refine snoc_ind (p := fun y => pay (tst rs L) (tbt rs L factor) (Sum.inl 0 : Key) y = (walkR rs L 0 y).2 * factor) (by show (0 : Int) = 0 * factor; rw [Int.zero_mul]) (fun y c ih => ?_) y
  rw [pay_snoc, ih, muT_fold, walk_snoc, step_snd, Int.add_mul]
  rfl
theorem fitsT {rs : List Row} {es : List Int} {L : List Nat} {factor more : Int} {N : Nat} (hle : (turns (tst rs L) L (Sum.inl 0 : Key) N).1.length ≤ N) :
    FitsF N (tst rs L) (muT rs L []) (fun y => lenR rs es L y * factor + more) L (rowsMade (tbt rs L factor) L (turns (tst rs L) L (Sum.inl 0 : Key) N).1 (turns (tst rs L) L (Sum.inl 0 : Key) N).2) ((turns (tst rs L) L (Sum.inl 0 : Key) N).1.map (ten es factor more)) := by
  refine fitsF_of (s0 := (Sum.inl 0 : Key)) hle fun y _ => ?_
  rw [payT, muT_fold]
  show (walkR rs L 0 y).2 * factor + (es.getD (walkR rs L 0 y).1.toNat 0 * factor + more) = lenR rs es L y * factor + more
  unfold lenR
  rw [Int.add_mul, Int.add_assoc]
/-- memories of sums -/
def muS (r1 r2 : List Row) (L : List Nat) (y : List Nat) : List Key := [.inl (walkR r1 L 0 y).1, .inl (walkR r2 L 0 y).1]
theorem muS_snoc (r1 r2 : List Row) (L : List Nat) (y : List Nat) (c : Nat) : muS r1 r2 L (y ++ [c]) = sst r1 r2 L (muS r1 r2 L y) c := by
  unfold muS
  rw [walk_snoc, walk_snoc, step_fst, step_fst r2]
  rfl
theorem muS_fold (r1 r2 : List Row) (L : List Nat) (y : List Nat) : y.foldl (sst r1 r2 L) [Sum.inl 0, Sum.inl 0] = muS r1 r2 L y :=
  snoc_ind (p := fun y => y.foldl (sst r1 r2 L) [Sum.inl 0, Sum.inl 0] = muS r1 r2 L y) rfl (fun y c ih => by rw [List.foldl_append, List.foldl_cons, List.foldl_nil, ih, muS_snoc]) y
theorem payS (r1 r2 : List Row) (L : List Nat) (y : List Nat) : pay (sst r1 r2 L) (sbt r1 r2 L) [Sum.inl 0, Sum.inl 0] y = (walkR r1 L 0 y).2 + (walkR r2 L 0 y).2 := by
  refine snoc_ind (p := fun y => pay (sst r1 r2 L) (sbt r1 r2 L) [Sum.inl 0, Sum.inl 0] y = (walkR r1 L 0 y).2 + (walkR r2 L 0 y).2) rfl (fun y c ih => ?_) y
  rw [pay_snoc, ih, muS_fold, walk_snoc, walk_snoc, step_snd, step_snd r2]
  show (walkR r1 L 0 y).2 + (walkR r2 L 0 y).2 + ((stepR r1 L ((walkR r1 L 0 y).1, 0) c).2 + (stepR r2 L ((walkR r2 L 0 y).1, 0) c).2) = _
  omega
theorem fitsS {r1 r2 : List Row} {e1 e2 : List Int} {L : List Nat} {N : Nat} (hle : (turns (sst r1 r2 L) L [Sum.inl 0, Sum.inl 0] N).1.length ≤ N) :
    FitsF N (sst r1 r2 L) (muS r1 r2 L []) (fun y => lenR r1 e1 L y + lenR r2 e2 L y) L (rowsMade (sbt r1 r2 L) L (turns (sst r1 r2 L) L [Sum.inl 0, Sum.inl 0] N).1 (turns (sst r1 r2 L) L [Sum.inl 0, Sum.inl 0] N).2) ((turns (sst r1 r2 L) L [Sum.inl 0, Sum.inl 0] N).1.map (sen e1 e2)) := by
  refine fitsF_of (s0 := [Sum.inl 0, Sum.inl 0]) hle fun y _ => ?_
  rw [payS, muS_fold]
  show (walkR r1 L 0 y).2 + (walkR r2 L 0 y).2 + (e1.getD (walkR r1 L 0 y).1.toNat 0 + e2.getD (walkR r2 L 0 y).1.toNat 0) = lenR r1 e1 L y + lenR r2 e2 L y
  unfold lenR
  omega
/-- the words of a column, one behind the other -/
def flatW (wd : Nat → Str) (y : List Nat) : List Nat := (y.map fun c => TL.tl (wd c)).flatten
theorem flatW_snoc (wd : Nat → Str) (y : List Nat) (c : Nat) : flatW wd (y ++ [c]) = flatW wd y ++ TL.tl (wd c) := by
  unfold flatW
  simp
theorem walk_app (rs : List Row) (L : List Nat) : ∀ (x : List Nat) (s : Int × Int), (x.foldl (stepR rs L) s).1 = (walkR rs L s.1 x).1 ∧ (x.foldl (stepR rs L) s).2 = s.2 + (walkR rs L s.1 x).2 := by
  intro x s
  refine snoc_ind (p := fun x => (x.foldl (stepR rs L) s).1 = (walkR rs L s.1 x).1 ∧ (x.foldl (stepR rs L) s).2 = s.2 + (walkR rs L s.1 x).2) ⟨rfl, (Int.add_zero _).symm⟩ (fun x c ih => ?_) x
  rw [List.foldl_append, List.foldl_cons, List.foldl_nil, walk_snoc, step_fst, step_snd, step_fst rs L (walkR rs L s.1 x), step_snd rs L (walkR rs L s.1 x), ih.1, ih.2]
  exact ⟨rfl, Int.add_assoc _ _ _⟩
theorem walk_two (rs : List Row) (L : List Nat) (s : Int) (x y : List Nat) : (walkR rs L s (x ++ y)).1 = (walkR rs L (walkR rs L s x).1 y).1 ∧ (walkR rs L s (x ++ y)).2 = (walkR rs L s x).2 + (walkR rs L (walkR rs L s x).1 y).2 := by
  have := walk_app rs L y (walkR rs L s x)
  have e : walkR rs L s (x ++ y) = y.foldl (stepR rs L) (walkR rs L s x) := by
    unfold walkR
    rw [List.foldl_append]
  rw [e]
  exact this
def muW (rs : List Row) (L : List Nat) (wd : Nat → Str) (y : List Nat) : Key := .inl (walkR rs L 0 (flatW wd y)).1
theorem muW_snoc (rs : List Row) (L : List Nat) (wd : Nat → Str) (y : List Nat) (c : Nat) : muW rs L wd (y ++ [c]) = wst rs L wd (muW rs L wd y) c := by
  unfold muW
  rw [flatW_snoc, (walk_two rs L 0 _ _).1]
  rfl
theorem muW_fold (rs : List Row) (L : List Nat) (wd : Nat → Str) (y : List Nat) : y.foldl (wst rs L wd) (Sum.inl 0 : Key) = muW rs L wd y :=
  snoc_ind (p := fun y => y.foldl (wst rs L wd) (Sum.inl 0 : Key) = muW rs L wd y) rfl (fun y c ih => by rw [List.foldl_append, List.foldl_cons, List.foldl_nil, ih, muW_snoc]) y
theorem payW (rs : List Row) (L : List Nat) (wd : Nat → Str) (y : List Nat) : pay (wst rs L wd) (wbt rs L wd) (Sum.inl 0 : Key) y = (walkR rs L 0 (flatW wd y)).2 := by
  refine snoc_ind (p := fun y => pay (wst rs L wd) (wbt rs L wd) (Sum.inl 0 : Key) y = (walkR rs L 0 (flatW wd y)).2) rfl (fun y c ih => ?_) y
  rw [pay_snoc, ih, muW_fold, flatW_snoc, (walk_two rs L 0 _ _).2]
  rfl
theorem fitsW {rs : List Row} {es : List Int} {L L0 : List Nat} {wd : Nat → Str} {N : Nat} (hle : (turns (wst rs L0 wd) L (Sum.inl 0 : Key) N).1.length ≤ N) :
    FitsF N (wst rs L0 wd) (muW rs L0 wd []) (fun y => lenR rs es L0 (flatW wd y)) L (rowsMade (wbt rs L0 wd) L (turns (wst rs L0 wd) L (Sum.inl 0 : Key) N).1 (turns (wst rs L0 wd) L (Sum.inl 0 : Key) N).2) ((turns (wst rs L0 wd) L (Sum.inl 0 : Key) N).1.map (wen es)) := by
  refine fitsF_of (s0 := (Sum.inl 0 : Key)) hle fun y _ => ?_
  rw [payW, muW_fold]
  show (walkR rs L0 0 (flatW wd y)).2 + es.getD (walkR rs L0 0 (flatW wd y)).1.toNat 0 = lenR rs es L0 (flatW wd y)
  rfl
end Vf
set_option Elab.async false
set_option linter.all false
set_option maxRecDepth 100000
set_option maxHeartbeats 4000000
namespace Vf
open PySem L2 PyProof.Rows
open NdefX LamX
abbrev s__law_is_factor_right : Stmt := top 42
abbrev N__law_is_factor_right : List Str := ["_law_code_here", "_law_factor", "_law_more", "_law_columns", "_law_made", "_law_memory"]
abbrev P__law_is_factor_right : List Str := ["_law_code_here", "_law_factor", "_law_more", "_law_columns"]
theorem sc__law_is_factor_right : FnScope N__law_is_factor_right P__law_is_factor_right (defScope s__law_is_factor_right) := ⟨rfl, rfl, rfl, by decide +kernel, rfl, by decide +kernel, by decide +kernel⟩

abbrev l__law_is_factor_right_l0 : Expr := (stVal ((defBody s__law_is_factor_right).getD 1 (.Pass ⟨0, 0, 0, 0⟩)))
abbrev N__law_is_factor_right_l0 : List Str := ["_law_column_here", "_law_code_here"]
abbrev P__law_is_factor_right_l0 : List Str := ["_law_column_here"]
abbrev R__law_is_factor_right_l0 : List Str := ["_law_code_here"]
theorem ns__law_is_factor_right_l0 : NScope N__law_is_factor_right_l0 P__law_is_factor_right_l0 R__law_is_factor_right_l0 (lamScope l__law_is_factor_right_l0) := nscope_by (by decide +kernel)
theorem nc__law_is_factor_right_l0 : cellsB (defScope s__law_is_factor_right) (lamScope l__law_is_factor_right_l0) = true := by decide +kernel
theorem nr__law_is_factor_right_l0 : ∀ y ∈ R__law_is_factor_right_l0, (y, NameKind.free) ∈ (lamScope l__law_is_factor_right_l0).names := by decide +kernel

abbrev l__law_is_factor_right_l1 : Expr := (argN (stVal ((defBody s__law_is_factor_right).getD 2 (.Pass ⟨0, 0, 0, 0⟩))) 3)
abbrev N__law_is_factor_right_l1 : List Str := ["_law_column_here", "_law_code_here", "_law_factor", "_law_more"]
abbrev P__law_is_factor_right_l1 : List Str := ["_law_column_here"]
abbrev R__law_is_factor_right_l1 : List Str := ["_law_code_here", "_law_factor", "_law_more"]
theorem ns__law_is_factor_right_l1 : NScope N__law_is_factor_right_l1 P__law_is_factor_right_l1 R__law_is_factor_right_l1 (lamScope l__law_is_factor_right_l1) := nscope_by (by decide +kernel)
theorem nc__law_is_factor_right_l1 : cellsB (defScope s__law_is_factor_right) (lamScope l__law_is_factor_right_l1) = true := by decide +kernel
theorem nr__law_is_factor_right_l1 : ∀ y ∈ R__law_is_factor_right_l1, (y, NameKind.free) ∈ (lamScope l__law_is_factor_right_l1).names := by decide +kernel

abbrev Q_factor : Str := (envOfC "_law_is_factor_right" (defScope s__law_is_factor_right) 0 0 .none).qual
section
variable {P : Program} {w : World} {K : PySem.W.Frag} {mg : Str → Option Value} {base : Heap}
theorem lok_factor0 {fW : Addr} {fdW : FuncData} {t : V} {z : Str} {rs : List Row} {es : List Int} {fg c' : Addr} {cl : List (Str × Addr)} {q : Str} (m_law_walk : mg "_law_walk" = some (.ref fW)) (k_law_walk : PySem.W.keepIn K (.ref fW) = true) (FW : Fun K "_law_walk" "_law_walk" s__law_walk fW fdW) (b_law_walk : Binds K fdW P__law_walk []) (hg : GoodS z.length rs) (hz : z.length ≤ 26) (h0 : 0 < rs.length) :
    LOk P w K mg base CX0 2 fg (LF l__law_is_factor_right_l0 q cl c') (lamBody l__law_is_factor_right_l0) P__law_is_factor_right_l0 R__law_is_factor_right_l0 (fun ws vs H Q E => ws = [some t] ∧ Dp K H t (codeD z rs es) ∧ spMemF kdK (muT rs (TL.tl z)) z vs H Q E) := by
  have G_law_walk : FnOk P w K mg base CX0 1 fW fdW P__law_walk (spWalk K) := ok_walk FW
  refine lok_of ns__law_is_factor_right_l0 (fun pm ctv us hl => match us, hl with | [_], _ => rfl) (fun ws vs H Q E h => ?_) (fun A outer s H vs ws Q E hr hl h => ?_)
  · obtain ⟨_, _, y, rfl, _⟩ := h
    rfl
  · obtain ⟨rfl, hD, y, rfl, hy, hyl, kq⟩ := h
    have hu := hu_of hr
    refine ⟨_, (pe_ix ix_tup (pe_call G_law_walk (hr.mono (by decide)) (by rfl) m_law_walk k_law_walk b_law_walk .nil pass0 (pa_cons (pv 1) (pa_cons pe_int (pa_cons (pv 0) pa_nil)))) pe_int (fun _ _ => rfl)), ?_⟩
    refine ⟨_, rfl, _, rfl, t, 0, z, y, rs, es, rfl, hD, hg, hy, Int.le_refl _, by omega, fun t2 H1 s1 ht => ?_⟩
    refine ⟨t2, _, 0, _, rfl, rfl, SqT.of ht, rfl, kq _ _ s1 rfl⟩
theorem lok_factor1 {fLL fW : Addr} {fdLL fdW : FuncData} {t : V} {z : Str} {rs : List Row} {es : List Int} {factor more : Int} {fg c' : Addr} {cl : List (Str × Addr)} {q : Str} (m_law_length : mg "_law_length" = some (.ref fLL)) (k_law_length : PySem.W.keepIn K (.ref fLL) = true) (FLL : Fun K "_law_length" "_law_length" s__law_length fLL fdLL) (b_law_length : Binds K fdLL P__law_length [])
    (m_law_walk : mg "_law_walk" = some (.ref fW)) (k_law_walk : PySem.W.keepIn K (.ref fW) = true) (FW : Fun K "_law_walk" "_law_walk" s__law_walk fW fdW) (b_law_walk : Binds K fdW P__law_walk []) (hg : Good z.length rs es) (hz : z.length ≤ 26) (hf : -(2 ^ 64) < factor ∧ factor < 2 ^ 64) :
    LOk P w K mg base CX0 3 fg (LF l__law_is_factor_right_l1 q cl c') (lamBody l__law_is_factor_right_l1) P__law_is_factor_right_l1 R__law_is_factor_right_l1 (fun ws vs H Q E => ws = [some t, some (.int factor), some (.int more)] ∧ Dp K H t (codeD z rs es) ∧ spDueF (fun y => lenR rs es (TL.tl z) y * factor + more) z vs H Q E) := by
  have G_law_length : FnOk P w K mg base CX0 2 fLL fdLL P__law_length (spLLen K) := ok_llen FLL m_law_walk k_law_walk FW b_law_walk
  refine lok_of ns__law_is_factor_right_l1 (fun pm ctv us hl => match us, hl with | [_], _ => rfl) (fun ws vs H Q E h => ?_) (fun A outer s H vs ws Q E hr hl h => ?_)
  · obtain ⟨_, _, y, rfl, _⟩ := h
    rfl
  · obtain ⟨rfl, hD, y, rfl, hy, hyl, kq⟩ := h
    have hu := hu_of hr
    refine ⟨_, (pe_op op_add (pe_op op_mul (pe_call G_law_length (hr.mono (by decide)) (by rfl) m_law_length k_law_length b_law_length .nil pass0 (pa_cons (pv 1) (pa_cons (pv 0) pa_nil))) (pv 2)) (pv 3)), ?_⟩
    refine ⟨_, rfl, _, rfl, t, z, y, rs, es, rfl, hD, hg.s, hg.len, hg.pos, hy, fun H1 s1 => ?_⟩
    refine ⟨_, rfl, _, _, rfl, rfl, Or.inr hf, _, rfl, _, _, rfl, rfl, kq H1 s1⟩
theorem mem_hid {κ : Type} [DecidableEq κ] {kd : Kd κ} {μ : List Nat → κ} {z : Str} {cs : Cs} {H : Hp} {vs : List V} {Q : VK} {E E' : XK} (hc : HeldC cs H) (h : spMemF kd μ z vs H Q E) :
    spMemF kd μ z vs (hid cs H) (fun v H2 => (∀ c o, cs.lookup c = some o → H2 c = none) → Q v (shw cs H2)) E' := by
  obtain ⟨y, ev, hy, hl, kk⟩ := h
  exact ⟨y, ev, hy, hl, fun v H' s1 hat hn => kk v (shw cs H') (same_up hc s1) (kd_shw hn hat)⟩
theorem due_hid {δ : List Nat → Int} {z : Str} {cs : Cs} {H : Hp} {vs : List V} {Q : VK} {E E' : XK} (hc : HeldC cs H) (h : spDueF δ z vs H Q E) :
    spDueF δ z vs (hid cs H) (fun v H2 => (∀ c o, cs.lookup c = some o → H2 c = none) → Q v (shw cs H2)) E' := by
  obtain ⟨y, ev, hy, hl, kk⟩ := h
  exact ⟨y, ev, hy, hl, fun H' s1 hn => kk (shw cs H') (same_up hc s1)⟩
theorem stab_dp {K : PySem.W.Frag} {v : V} {d : PyData} : Stab fun H => Dp K H v d := fun H H' q k => q.mv (kl_ext k)
theorem fnL_ne {f : Addr} {F : NF} {e : Expr} (ps : Array Value) : FnL f F e ≠ .tbl ps := fun z => nomatch z
structure TxtFa (K : PySem.W.Frag) (mg : Str → Option Value) (fMa fTi fIR : Addr) : Prop where
  m_law_made_code : mg "_law_made_code" = some (.ref fMa)
  k_law_made_code : PySem.W.keepIn K (.ref fMa) = true
  mtimes : mg "times" = some (.ref fTi)
  ktimes : PySem.W.keepIn K (.ref fTi) = true
  m_law_is_right : mg "_law_is_right" = some (.ref fIR)
  k_law_is_right : PySem.W.keepIn K (.ref fIR) = true
def spFactor (K : PySem.W.Frag) (NT : List NTab) : Sp := fun vs H Q _ => ∃ (t : V) (z : Str) (rs : List Row) (es : List Int) (factor more : Int) (cl : Addr) (ys : List (List Nat)), vs = [t, .int factor, .int more, .ref cl] ∧ Dp K H t (codeD z rs es) ∧ Good z.length rs es ∧ 1 ≤ z.length ∧ z.length ≤ 3 ∧ rs.length ≤ 40 ∧ (-(2 ^ 64) < factor ∧ factor < 2 ^ 64) ∧
  H cl = some (.lst (ys.map fun l => V.str (mkS l))) ∧ ys.length ≤ 1000 ∧ (∀ y ∈ ys, y.length ≤ 100 ∧ ∀ x ∈ y, x ∈ TL.tl z) ∧ TabsN NT H ∧ ∀ H', SameT NT H H' → Q (.bl true) H'
theorem ok_factor {NT : List NTab} {f fMa fTi fIR fLL fW C cT pT : Addr} {fd fdMa fdTi fdIR fdLL fdW : FuncData} (F : FunC K "_law_is_factor_right" "_law_is_factor_right" s__law_is_factor_right f fd cT) (T1 : TxtN2 base mg NT cT pT (fun _ _ => Q_factor ++ "<lambda>")) (T : TxtFa K mg fMa fTi fIR)
    (m_law_length : mg "_law_length" = some (.ref fLL)) (k_law_length : PySem.W.keepIn K (.ref fLL) = true) (FLL : Fun K "_law_length" "_law_length" s__law_length fLL fdLL) (b_law_length : Binds K fdLL P__law_length [])
    (m_law_walk : mg "_law_walk" = some (.ref fW)) (k_law_walk : PySem.W.keepIn K (.ref fW) = true) (FW : Fun K "_law_walk" "_law_walk" s__law_walk fW fdW) (b_law_walk : Binds K fdW P__law_walk [])
    (G_law_made_code : FnOk P w K mg base (L2.CX P w) 6 fMa fdMa P__law_made_code (spMadeC K C)) (b_law_made_code : Binds K fdMa P__law_made_code [])
    (Gtimes : FnOk P w K mg base (L2.CX P w) 11 fTi fdTi P_times (spTimes K NT C)) (btimes : Binds K fdTi P_times [])
    (G_law_is_right : FnOk P w K mg base CX0 10 fIR fdIR P__law_is_right (spIsRight P w K mg base kdK kddK C)) (b_law_is_right : Binds K fdIR P__law_is_right []) : FnOk P w K mg base (L2.CX P w) 12 f fd P__law_is_factor_right (spFactor K NT) := by
  refine F.okX sc__law_is_factor_right (fun vs H Q E h => ?_) (fun A outer s H vs Q E hr h => ?_)
  · obtain ⟨t, z, rs, es, factor, more, cl, ys, rfl, _⟩ := h
    rfl
  · obtain ⟨t, z, rs, es, factor, more, cl, ys, rfl, hD, hg, hz1, hz, h40, hf, hcl, hyl, hys, hT, kq⟩ := h
    have hu := hu_of hr
    have passL : Passes (L2.CX P w) (cxOf (L2.CX P w) P w K mg base N__law_is_factor_right "_law_is_factor_right" (defScope s__law_is_factor_right) f (.ref cT) A outer s H E) E := passes_call (takes_of rfl rfl rfl rfl) (fun _ _ _ _ h => h)
    refine ⟨_, (pss_cons (ps_set (i := 4) sc__law_is_factor_right.nd rfl (Or.inl rfl) (pe_call Gtimes (hr.mono (by decide)) (by rfl) T.mtimes T.ktimes btimes .nil passL (pa_cons (pe_call G_law_made_code (hr.mono (by decide)) (by rfl) T.m_law_made_code T.k_law_made_code b_law_made_code .nil passL (pa_cons (pv 0) pa_nil)) (pa_cons (pv 1) (pa_cons (pv 2) pa_nil)))))
      (pss_cons (ps_set (i := 5) sc__law_is_factor_right.nd rfl (Or.inl rfl) (pe_lamV T1.tb rfl T1.tm rfl T1.tu rfl (fun y hy e => Or.inl (cells_free nc__law_is_factor_right_l0 y hy e))))
      (pss_one (ps_ret (pe_callC cxok0 G_law_is_right (hr.mono (by decide)) (fun _ => rfl) (by rfl) T.m_law_is_right T.k_law_is_right b_law_is_right .nil pass0 (pa_cons (pv 4) (pa_cons (pe_ix ix_tup (pv 0) pe_int (fun _ _ => rfl)) (pa_cons (pv 5) (pa_cons (pe_lamV T1.tb rfl T1.tm rfl T1.tu rfl (fun y hy e => Or.inl (cells_free nc__law_is_factor_right_l1 y hy e))) (pa_cons (pv 3) pa_nil)))))))))), ?_⟩
    have hD0 := hD
    obtain ⟨ta, txs, rfl, hta, htd⟩ := hD0.tupE
    have hx0 : txs[0]? = some (.str z) := by
      cases htd with
      | cons h1 hx =>
        obtain rfl := h1.strE
        rfl
    refine ⟨_, rfl, .ref ta, z, rs, es, rfl, hD, hg, by omega, by omega, fun o H1 hC s1 => ?_⟩
    have hT1 : TabsN NT H1 := hT.ext fun b o e => s1 b o e
    refine ⟨_, rfl, _, rfl, o, factor, more, z, rs, es, rfl, hC, hg.s, hg.len, hg.pos, h40, hz, hf, hT1, fun o2 H2 st2 hC2 hle => ?_⟩
    have sa : SameT NT H H2 := (SameT.of s1 hT).trans st2
    refine ⟨st2.tab, fun fm c1 H3 eN back T3 nf hfm hc1 => ?_⟩
    have st3 : SameT NT H2 H3 := ⟨eN, back, T3⟩
    have hta3 := (kl_ext (sa.trans st3).ext).seqT hta
    refine ⟨_, rfl, _, rfl, ta, _, 0, .str z, rfl, rfl, hta3, atI_nat (j := 0) hx0, _, rfl, T3, fun fu c2 H4 eN4 back4 T4 nf4 hfu hc2 => ⟨_, rfl, fun cs hcap hcn => ?_⟩⟩
    have st4 : SameT NT H3 H4 := ⟨eN4, back4, T4⟩
    have sb := (sa.trans st3).trans st4
    have hD4 := hD.mv (kl_ext sb.ext)
    have hcl4 := sb.ext _ _ hcl (fun _ z => nomatch z)
    have hfm4 := st4.ext _ _ hfm fnL_ne
    have hc14 := st4.ext _ _ hc1 (fun _ z => nomatch z)
    have hC4 := stab_code H2 H4 hC2 (st3.trans st4).ext
    have hcap0 := cap_of (scope := lamScope l__law_is_factor_right_l0) (fr := R__law_is_factor_right_l0) (js := [0]) hcap (cells_free nc__law_is_factor_right_l0) nr__law_is_factor_right_l0 rfl
    have hcap1 := cap_of (scope := lamScope l__law_is_factor_right_l1) (fr := R__law_is_factor_right_l1) (js := [0, 1, 2]) hcap (cells_free nc__law_is_factor_right_l1) nr__law_is_factor_right_l1 rfl
    have FM := (fv_of_lok cxok0 (lok_factor0 (P := P) (w := w) (mg := mg) (base := base) (fg := fm) (c' := c1) (cl := _) (q := Q_factor ++ "<lambda>") (t := .ref ta) (es := es) m_law_walk k_law_walk FW b_law_walk hg.s (by omega) hg.pos) hcap0).mono (by decide : 2 ≤ 8)
    have FU := (fv_of_lok cxok0 (lok_factor1 (P := P) (w := w) (mg := mg) (base := base) (fg := fu) (c' := c2) (cl := _) (q := Q_factor ++ "<lambda>") (t := .ref ta) (more := more) m_law_length k_law_length FLL b_law_length m_law_walk k_law_walk FW b_law_walk hg (by omega) hf) hcap1).mono (by decide : 3 ≤ 8)
    have FM2 := FM.imp (S' := fun H => HeldL fm (LF l__law_is_factor_right_l0 (Q_factor ++ "<lambda>") (cloFrom (cxOf (L2.CX P w) P w K mg base N__law_is_factor_right "_law_is_factor_right" (defScope s__law_is_factor_right) f (.ref cT) A outer s H E).env.cells (lamScope l__law_is_factor_right_l0).names []) c1) (lamBody l__law_is_factor_right_l0) cs H ∧ Dp K H (.ref ta) (codeD z rs es)) (sp' := spMemF kdK (muT rs (TL.tl z)) z)
      (fun H h => h.1) (fun vs H Q E h q => ⟨rfl, h.2.mv (kl_hid h.1.cells), mem_hid h.1.cells q⟩)
    have FU2 := FU.imp (S' := fun H => HeldL fu (LF l__law_is_factor_right_l1 (Q_factor ++ "<lambda>") (cloFrom (cxOf (L2.CX P w) P w K mg base N__law_is_factor_right "_law_is_factor_right" (defScope s__law_is_factor_right) f (.ref cT) A outer s H E).env.cells (lamScope l__law_is_factor_right_l1).names []) c2) (lamBody l__law_is_factor_right_l1) cs H ∧ Dp K H (.ref ta) (codeD z rs es)) (sp' := spDueF (fun y => lenR rs es (TL.tl z) y * factor + more) z)
      (fun H h => h.1) (fun vs H Q E h q => ⟨rfl, h.2.mv (kl_hid h.1.cells), due_hid h.1.cells q⟩)
    have hDs := hD4.mv (Kl.same (same_shw hcn))
    have sM := (stab_heldL fm (LF l__law_is_factor_right_l0 (Q_factor ++ "<lambda>") (cloFrom (cxOf (L2.CX P w) P w K mg base N__law_is_factor_right "_law_is_factor_right" (defScope s__law_is_factor_right) f (.ref cT) A outer s H E).env.cells (lamScope l__law_is_factor_right_l0).names []) c1) (lamBody l__law_is_factor_right_l0) cs).and (stab_dp (K := K) (v := .ref ta) (d := codeD z rs es))
    have sU := (stab_heldL fu (LF l__law_is_factor_right_l1 (Q_factor ++ "<lambda>") (cloFrom (cxOf (L2.CX P w) P w K mg base N__law_is_factor_right "_law_is_factor_right" (defScope s__law_is_factor_right) f (.ref cT) A outer s H E).env.cells (lamScope l__law_is_factor_right_l1).names []) c2) (lamBody l__law_is_factor_right_l1) cs).and (stab_dp (K := K) (v := .ref ta) (d := codeD z rs es))
    refine ⟨o2, z, _, _, fm, fu, cl, _, _, muT rs (TL.tl z), _, tst rs (TL.tl z), ys, rfl, hC4.shw hcn, FM2, FU2, ⟨⟨shw_keep hcn hfm4, shw_keep hcn hc14, held_shw⟩, hDs⟩, ⟨⟨shw_keep hcn hfu, shw_keep hcn hc2, held_shw⟩, hDs⟩, sM, sU, hz, hz1, fun y c _ _ => muT_snoc _ _ _ _, fun y _ => trivial, fitsT hle, shw_keep hcn hcl4, hyl, hys, fun H5 s5 => ⟨held_same s5, kq _ (sb.trans (SameT.of (same_hid hcn s5) T4))⟩⟩
end
end Vf
set_option Elab.async false
set_option linter.all false
set_option maxRecDepth 100000
set_option maxHeartbeats 4000000
namespace Vf
open PySem L2 PyProof.Rows
open NdefX LamX
abbrev s__law_is_sum_right : Stmt := top 41
abbrev N__law_is_sum_right : List Str := ["_law_one", "_law_other", "_law_columns", "_law_made", "_law_memory", "_law_due"]
abbrev P__law_is_sum_right : List Str := ["_law_one", "_law_other", "_law_columns"]
theorem sc__law_is_sum_right : FnScope N__law_is_sum_right P__law_is_sum_right (defScope s__law_is_sum_right) := ⟨rfl, rfl, rfl, by decide +kernel, rfl, by decide +kernel, by decide +kernel⟩

abbrev l__law_is_sum_right_l0 : Expr := (stVal ((defBody s__law_is_sum_right).getD 1 (.Pass ⟨0, 0, 0, 0⟩)))
abbrev N__law_is_sum_right_l0 : List Str := ["_law_column_here", "_law_one", "_law_other"]
abbrev P__law_is_sum_right_l0 : List Str := ["_law_column_here"]
abbrev R__law_is_sum_right_l0 : List Str := ["_law_one", "_law_other"]
theorem ns__law_is_sum_right_l0 : NScope N__law_is_sum_right_l0 P__law_is_sum_right_l0 R__law_is_sum_right_l0 (lamScope l__law_is_sum_right_l0) := nscope_by (by decide +kernel)
theorem nc__law_is_sum_right_l0 : cellsB (defScope s__law_is_sum_right) (lamScope l__law_is_sum_right_l0) = true := by decide +kernel
theorem nr__law_is_sum_right_l0 : ∀ y ∈ R__law_is_sum_right_l0, (y, NameKind.free) ∈ (lamScope l__law_is_sum_right_l0).names := by decide +kernel

abbrev l__law_is_sum_right_l1 : Expr := (stVal ((defBody s__law_is_sum_right).getD 2 (.Pass ⟨0, 0, 0, 0⟩)))
abbrev N__law_is_sum_right_l1 : List Str := ["_law_column_here", "_law_one", "_law_other"]
abbrev P__law_is_sum_right_l1 : List Str := ["_law_column_here"]
abbrev R__law_is_sum_right_l1 : List Str := ["_law_one", "_law_other"]
theorem ns__law_is_sum_right_l1 : NScope N__law_is_sum_right_l1 P__law_is_sum_right_l1 R__law_is_sum_right_l1 (lamScope l__law_is_sum_right_l1) := nscope_by (by decide +kernel)
theorem nc__law_is_sum_right_l1 : cellsB (defScope s__law_is_sum_right) (lamScope l__law_is_sum_right_l1) = true := by decide +kernel
theorem nr__law_is_sum_right_l1 : ∀ y ∈ R__law_is_sum_right_l1, (y, NameKind.free) ∈ (lamScope l__law_is_sum_right_l1).names := by decide +kernel

abbrev Q_sumr : Str := (envOfC "_law_is_sum_right" (defScope s__law_is_sum_right) 0 0 .none).qual
theorem sst_len {r1 r2 : List Row} {z : Str} (g1 : GoodS z.length r1) (g2 : GoodS z.length r2) (l1 : 0 < r1.length) (l2 : 0 < r2.length) (h : r1.length * r2.length ≤ 40) : (turns (sst r1 r2 (TL.tl z)) (TL.tl z) [Sum.inl 0, Sum.inl 0] 40).1.length ≤ 40 := by
  have := nodup_le (ys := (List.range r1.length).flatMap fun (a : Nat) => (List.range r2.length).map fun (b : Nat) => ([Sum.inl (a : Int), Sum.inl (b : Int)] : List Key)) (turns_nodup (sst r1 r2 (TL.tl z)) (TL.tl z) [Sum.inl 0, Sum.inl 0] 40) (fun x hx => by
    obtain ⟨a, b, a0, a1, b0, b1, rfl⟩ := turns_dm (Dm := sDm r1 r2) (sst r1 r2 (TL.tl z)) (TL.tl z) [Sum.inl 0, Sum.inl 0] ⟨0, 0, Int.le_refl _, by omega, Int.le_refl _, by omega, rfl⟩ (sst_dm g1 g2) 40 x hx
    refine List.mem_flatMap.mpr ⟨a.toNat, List.mem_range.mpr (by omega), List.mem_map.mpr ⟨b.toNat, List.mem_range.mpr (by omega), ?_⟩⟩
    rw [Int.toNat_of_nonneg a0, Int.toNat_of_nonneg b0])
  have e : ((List.range r1.length).flatMap fun (a : Nat) => (List.range r2.length).map fun (b : Nat) => ([Sum.inl (a : Int), Sum.inl (b : Int)] : List Key)).length = r1.length * r2.length := by
    rw [List.length_flatMap]
    generalize r1.length = n
    induction n with
    | zero => simp
    | succ n ih =>
      rw [List.range_succ, List.map_append, List.sum_append, ih, List.map_singleton, List.length_map, List.length_range, Nat.succ_mul]
      simp
  omega
section
variable {P : Program} {w : World} {K : PySem.W.Frag} {mg : Str → Option Value} {base : Heap}
theorem lok_sum0 {fW : Addr} {fdW : FuncData} {t u : V} {z : Str} {r1 r2 : List Row} {e1 e2 : List Int} {fg c' : Addr} {cl : List (Str × Addr)} {q : Str} (m_law_walk : mg "_law_walk" = some (.ref fW)) (k_law_walk : PySem.W.keepIn K (.ref fW) = true) (FW : Fun K "_law_walk" "_law_walk" s__law_walk fW fdW) (b_law_walk : Binds K fdW P__law_walk []) (g1 : Good z.length r1 e1) (g2 : Good z.length r2 e2) :
    LOk P w K mg base CX0 2 fg (LF l__law_is_sum_right_l0 q cl c') (lamBody l__law_is_sum_right_l0) P__law_is_sum_right_l0 R__law_is_sum_right_l0 (fun ws vs H Q E => ws = [some t, some u] ∧ Dp K H t (codeD z r1 e1) ∧ Dp K H u (codeD z r2 e2) ∧ spMemF kdT (muS r1 r2 (TL.tl z)) z vs H Q E) := by
  have G_law_walk : FnOk P w K mg base CX0 1 fW fdW P__law_walk (spWalk K) := ok_walk FW
  refine lok_of ns__law_is_sum_right_l0 (fun pm ctv us hl => match us, hl with | [_], _ => rfl) (fun ws vs H Q E h => ?_) (fun A outer s H vs ws Q E hr hl h => ?_)
  · obtain ⟨_, _, _, y, rfl, _⟩ := h
    rfl
  · obtain ⟨rfl, hD1, hD2, y, rfl, hy, hyl, kq⟩ := h
    have hu := hu_of hr
    refine ⟨_, (pe_tup (pa_cons (pe_ix ix_tup (pe_call G_law_walk (hr.mono (by decide)) (by rfl) m_law_walk k_law_walk b_law_walk .nil pass0 (pa_cons (pv 1) (pa_cons pe_int (pa_cons (pv 0) pa_nil)))) pe_int (fun _ _ => rfl)) (pa_cons (pe_ix ix_tup (pe_call G_law_walk (hr.mono (by decide)) (by rfl) m_law_walk k_law_walk b_law_walk .nil pass0 (pa_cons (pv 2) (pa_cons pe_int (pa_cons (pv 0) pa_nil)))) pe_int (fun _ _ => rfl)) pa_nil))), ?_⟩
    have p1 := g1.pos
    have p2 := g2.pos
    refine ⟨_, rfl, _, rfl, t, 0, z, y, r1, e1, rfl, hD1, g1.s, hy, Int.le_refl _, by omega, fun t2 H1 s1 ht => ?_⟩
    refine ⟨t2, _, 0, _, rfl, rfl, SqT.of ht, rfl, ?_⟩
    refine ⟨_, rfl, _, rfl, u, 0, z, y, r2, e2, rfl, hD2.mv (Kl.same s1), g2.s, hy, Int.le_refl _, by omega, fun t3 H2 s2 ht3 => ?_⟩
    refine ⟨t3, _, 0, _, rfl, rfl, SqT.of ht3, rfl, by show 2 ≤ sizeLine; decide, fun p hp => ?_⟩
    exact kq (.ref p) _ ((s1.trans s2).trans (same_new hp)) ⟨p, rfl, by rw [upd_same]; rfl⟩
theorem lok_sum1 {fLL fW : Addr} {fdLL fdW : FuncData} {t u : V} {z : Str} {r1 r2 : List Row} {e1 e2 : List Int} {fg c' : Addr} {cl : List (Str × Addr)} {q : Str} (m_law_length : mg "_law_length" = some (.ref fLL)) (k_law_length : PySem.W.keepIn K (.ref fLL) = true) (FLL : Fun K "_law_length" "_law_length" s__law_length fLL fdLL) (b_law_length : Binds K fdLL P__law_length [])
    (m_law_walk : mg "_law_walk" = some (.ref fW)) (k_law_walk : PySem.W.keepIn K (.ref fW) = true) (FW : Fun K "_law_walk" "_law_walk" s__law_walk fW fdW) (b_law_walk : Binds K fdW P__law_walk []) (g1 : Good z.length r1 e1) (g2 : Good z.length r2 e2) :
    LOk P w K mg base CX0 3 fg (LF l__law_is_sum_right_l1 q cl c') (lamBody l__law_is_sum_right_l1) P__law_is_sum_right_l1 R__law_is_sum_right_l1 (fun ws vs H Q E => ws = [some t, some u] ∧ Dp K H t (codeD z r1 e1) ∧ Dp K H u (codeD z r2 e2) ∧ spDueF (fun y => lenR r1 e1 (TL.tl z) y + lenR r2 e2 (TL.tl z) y) z vs H Q E) := by
  have G_law_length : FnOk P w K mg base CX0 2 fLL fdLL P__law_length (spLLen K) := ok_llen FLL m_law_walk k_law_walk FW b_law_walk
  refine lok_of ns__law_is_sum_right_l1 (fun pm ctv us hl => match us, hl with | [_], _ => rfl) (fun ws vs H Q E h => ?_) (fun A outer s H vs ws Q E hr hl h => ?_)
  · obtain ⟨_, _, _, y, rfl, _⟩ := h
    rfl
  · obtain ⟨rfl, hD1, hD2, y, rfl, hy, hyl, kq⟩ := h
    have hu := hu_of hr
    refine ⟨_, (pe_op op_add (pe_call G_law_length (hr.mono (by decide)) (by rfl) m_law_length k_law_length b_law_length .nil pass0 (pa_cons (pv 1) (pa_cons (pv 0) pa_nil))) (pe_call G_law_length (hr.mono (by decide)) (by rfl) m_law_length k_law_length b_law_length .nil pass0 (pa_cons (pv 2) (pa_cons (pv 0) pa_nil)))), ?_⟩
    refine ⟨_, rfl, _, rfl, t, z, y, r1, e1, rfl, hD1, g1.s, g1.len, g1.pos, hy, fun H1 s1 => ?_⟩
    refine ⟨_, rfl, _, rfl, u, z, y, r2, e2, rfl, hD2.mv (Kl.same s1), g2.s, g2.len, g2.pos, hy, fun H2 s2 => ?_⟩
    exact ⟨_, _, rfl, rfl, kq H2 (s1.trans s2)⟩
structure TxtSu (K : PySem.W.Frag) (mg : Str → Option Value) (fMa fSu fIR : Addr) : Prop where
  m_law_made_code : mg "_law_made_code" = some (.ref fMa)
  k_law_made_code : PySem.W.keepIn K (.ref fMa) = true
  msummed : mg "summed" = some (.ref fSu)
  ksummed : PySem.W.keepIn K (.ref fSu) = true
  m_law_is_right : mg "_law_is_right" = some (.ref fIR)
  k_law_is_right : PySem.W.keepIn K (.ref fIR) = true
def spSumR (K : PySem.W.Frag) (NT : List NTab) : Sp := fun vs H Q _ => ∃ (t u : V) (z : Str) (r1 r2 : List Row) (e1 e2 : List Int) (cl : Addr) (ys : List (List Nat)), vs = [t, u, .ref cl] ∧ Dp K H t (codeD z r1 e1) ∧ Dp K H u (codeD z r2 e2) ∧ Good z.length r1 e1 ∧ Good z.length r2 e2 ∧ 1 ≤ z.length ∧ z.length ≤ 3 ∧ r1.length ≤ 40 ∧ r2.length ≤ 40 ∧ r1.length * r2.length ≤ 40 ∧
  H cl = some (.lst (ys.map fun l => V.str (mkS l))) ∧ ys.length ≤ 1000 ∧ (∀ y ∈ ys, y.length ≤ 100 ∧ ∀ x ∈ y, x ∈ TL.tl z) ∧ TabsN NT H ∧ ∀ H', SameT NT H H' → Q (.bl true) H'
theorem ok_sumr {NT : List NTab} {f fMa fSu fIR fLL fW C CT CU cT pT : Addr} {fd fdMa fdSu fdIR fdLL fdW : FuncData} (F : FunC K "_law_is_sum_right" "_law_is_sum_right" s__law_is_sum_right f fd cT) (T1 : TxtN2 base mg NT cT pT (fun _ _ => Q_sumr ++ "<lambda>")) (T : TxtSu K mg fMa fSu fIR)
    (m_law_length : mg "_law_length" = some (.ref fLL)) (k_law_length : PySem.W.keepIn K (.ref fLL) = true) (FLL : Fun K "_law_length" "_law_length" s__law_length fLL fdLL) (b_law_length : Binds K fdLL P__law_length [])
    (m_law_walk : mg "_law_walk" = some (.ref fW)) (k_law_walk : PySem.W.keepIn K (.ref fW) = true) (FW : Fun K "_law_walk" "_law_walk" s__law_walk fW fdW) (b_law_walk : Binds K fdW P__law_walk [])
    (G_law_made_code : FnOk P w K mg base (L2.CX P w) 6 fMa fdMa P__law_made_code (spMadeC K C)) (b_law_made_code : Binds K fdMa P__law_made_code [])
    (Gsummed : FnOk P w K mg base (L2.CX P w) 11 fSu fdSu P_summed (spSummed K NT C CT CU)) (bsummed : Binds K fdSu P_summed [])
    (G_law_is_right : FnOk P w K mg base CX0 10 fIR fdIR P__law_is_right (spIsRight P w K mg base kdT kddT C)) (b_law_is_right : Binds K fdIR P__law_is_right []) : FnOk P w K mg base (L2.CX P w) 12 f fd P__law_is_sum_right (spSumR K NT) := by
  refine F.okX sc__law_is_sum_right (fun vs H Q E h => ?_) (fun A outer s H vs Q E hr h => ?_)
  · obtain ⟨t, u, z, r1, r2, e1, e2, cl, ys, rfl, _⟩ := h
    rfl
  · obtain ⟨t, u, z, r1, r2, e1, e2, cl, ys, rfl, hD, hDu, g1, g2, hz1, hz, h40, h41, h42, hcl, hyl, hys, hT, kq⟩ := h
    have hu := hu_of hr
    have passL : Passes (L2.CX P w) (cxOf (L2.CX P w) P w K mg base N__law_is_sum_right "_law_is_sum_right" (defScope s__law_is_sum_right) f (.ref cT) A outer s H E) E := passes_call (takes_of rfl rfl rfl rfl) (fun _ _ _ _ h => h)
    refine ⟨_, (pss_cons (ps_set (i := 3) sc__law_is_sum_right.nd rfl (Or.inl rfl) (pe_call Gsummed (hr.mono (by decide)) (by rfl) T.msummed T.ksummed bsummed .nil passL (pa_cons (pe_call G_law_made_code (hr.mono (by decide)) (by rfl) T.m_law_made_code T.k_law_made_code b_law_made_code .nil passL (pa_cons (pv 0) pa_nil)) (pa_cons (pe_call G_law_made_code (hr.mono (by decide)) (by rfl) T.m_law_made_code T.k_law_made_code b_law_made_code .nil passL (pa_cons (pv 1) pa_nil)) pa_nil))))
      (pss_cons (ps_set (i := 4) sc__law_is_sum_right.nd rfl (Or.inl rfl) (pe_lamV T1.tb rfl T1.tm rfl T1.tu rfl (fun y hy e => Or.inl (cells_free nc__law_is_sum_right_l0 y hy e))))
      (pss_cons (ps_set (i := 5) sc__law_is_sum_right.nd rfl (Or.inl rfl) (pe_lamV T1.tb rfl T1.tm rfl T1.tu rfl (fun y hy e => Or.inl (cells_free nc__law_is_sum_right_l1 y hy e))))
      (pss_one (ps_ret (pe_callC cxok0 G_law_is_right (hr.mono (by decide)) (fun _ => rfl) (by rfl) T.m_law_is_right T.k_law_is_right b_law_is_right .nil pass0 (pa_cons (pv 3) (pa_cons (pe_ix ix_tup (pv 0) pe_int (fun _ _ => rfl)) (pa_cons (pv 4) (pa_cons (pv 5) (pa_cons (pv 2) pa_nil))))))))))), ?_⟩
    have hD0 := hD
    obtain ⟨ta, txs, rfl, hta, htd⟩ := hD0.tupE
    have hx0 : txs[0]? = some (.str z) := by
      cases htd with
      | cons h1 hx =>
        obtain rfl := h1.strE
        rfl
    refine ⟨_, rfl, .ref ta, z, r1, e1, rfl, hD, g1, by omega, by omega, fun o H1 hC s1 => ?_⟩
    refine ⟨_, rfl, u, z, r2, e2, rfl, hDu.mv (Kl.same s1), g2, by omega, by omega, fun o' H1' hC' s1' => ?_⟩
    have s11 := s1.trans s1'
    have hT1 : TabsN NT H1' := hT.ext fun b o e => s11 b o e
    refine ⟨o, o', z, z, r1, r2, e1, e2, rfl, hC.same s1', hC', hz, hT1, fun n => absurd rfl n, fun _ => ⟨g1.s, g2.s, g1.len, g2.len, g1.pos, g2.pos, fun o2 H2 st2 hC2 hle => ?_, fun hgt => absurd (sst_len g1.s g2.s g1.pos g2.pos h42) (by omega)⟩⟩
    have sa : SameT NT H H2 := (SameT.of s11 hT).trans st2
    refine ⟨st2.tab, fun fm c1 H3 eN back T3 nf hfm hc1 => ?_⟩
    have st3 : SameT NT H2 H3 := ⟨eN, back, T3⟩
    refine ⟨T3, fun fu c2 H4 eN4 back4 T4 nf4 hfu hc2 => ?_⟩
    have st4 : SameT NT H3 H4 := ⟨eN4, back4, T4⟩
    have sb := (sa.trans st3).trans st4
    have hta4 := (kl_ext sb.ext).seqT hta
    refine ⟨_, rfl, _, rfl, ta, _, 0, .str z, rfl, rfl, hta4, atI_nat (j := 0) hx0, _, rfl, _, rfl, _, rfl, fun cs hcap hcn => ?_⟩
    have hD4 := hD.mv (kl_ext sb.ext)
    have hDu4 := hDu.mv (kl_ext sb.ext)
    have hcl4 := sb.ext _ _ hcl (fun _ z => nomatch z)
    have hfm4 := st4.ext _ _ hfm fnL_ne
    have hc14 := st4.ext _ _ hc1 (fun _ z => nomatch z)
    have hC4 := stab_code H2 H4 hC2 (st3.trans st4).ext
    have hcap0 := cap_of (scope := lamScope l__law_is_sum_right_l0) (fr := R__law_is_sum_right_l0) (js := [0, 1]) hcap (cells_free nc__law_is_sum_right_l0) nr__law_is_sum_right_l0 rfl
    have hcap1 := cap_of (scope := lamScope l__law_is_sum_right_l1) (fr := R__law_is_sum_right_l1) (js := [0, 1]) hcap (cells_free nc__law_is_sum_right_l1) nr__law_is_sum_right_l1 rfl
    have FM := (fv_of_lok cxok0 (lok_sum0 (P := P) (w := w) (mg := mg) (base := base) (fg := fm) (c' := c1) (cl := _) (q := Q_sumr ++ "<lambda>") (t := .ref ta) (u := u) m_law_walk k_law_walk FW b_law_walk g1 g2) hcap0).mono (by decide : 2 ≤ 8)
    have FU := (fv_of_lok cxok0 (lok_sum1 (P := P) (w := w) (mg := mg) (base := base) (fg := fu) (c' := c2) (cl := _) (q := Q_sumr ++ "<lambda>") (t := .ref ta) (u := u) m_law_length k_law_length FLL b_law_length m_law_walk k_law_walk FW b_law_walk g1 g2) hcap1).mono (by decide : 3 ≤ 8)
    have FM2 := FM.imp (S' := fun H => HeldL fm (LF l__law_is_sum_right_l0 (Q_sumr ++ "<lambda>") (cloFrom (cxOf (L2.CX P w) P w K mg base N__law_is_sum_right "_law_is_sum_right" (defScope s__law_is_sum_right) f (.ref cT) A outer s H E).env.cells (lamScope l__law_is_sum_right_l0).names []) c1) (lamBody l__law_is_sum_right_l0) cs H ∧ Dp K H (.ref ta) (codeD z r1 e1) ∧ Dp K H u (codeD z r2 e2)) (sp' := spMemF kdT (muS r1 r2 (TL.tl z)) z)
      (fun H h => h.1) (fun vs H Q E h q => ⟨rfl, h.2.1.mv (kl_hid h.1.cells), h.2.2.mv (kl_hid h.1.cells), mem_hid h.1.cells q⟩)
    have FU2 := FU.imp (S' := fun H => HeldL fu (LF l__law_is_sum_right_l1 (Q_sumr ++ "<lambda>") (cloFrom (cxOf (L2.CX P w) P w K mg base N__law_is_sum_right "_law_is_sum_right" (defScope s__law_is_sum_right) f (.ref cT) A outer s H E).env.cells (lamScope l__law_is_sum_right_l1).names []) c2) (lamBody l__law_is_sum_right_l1) cs H ∧ Dp K H (.ref ta) (codeD z r1 e1) ∧ Dp K H u (codeD z r2 e2)) (sp' := spDueF (fun y => lenR r1 e1 (TL.tl z) y + lenR r2 e2 (TL.tl z) y) z)
      (fun H h => h.1) (fun vs H Q E h q => ⟨rfl, h.2.1.mv (kl_hid h.1.cells), h.2.2.mv (kl_hid h.1.cells), due_hid h.1.cells q⟩)
    have hDs := hD4.mv (Kl.same (same_shw hcn))
    have hDus := hDu4.mv (Kl.same (same_shw hcn))
    have sD := (stab_dp (K := K) (v := .ref ta) (d := codeD z r1 e1)).and (stab_dp (K := K) (v := u) (d := codeD z r2 e2))
    have sM := (stab_heldL fm (LF l__law_is_sum_right_l0 (Q_sumr ++ "<lambda>") (cloFrom (cxOf (L2.CX P w) P w K mg base N__law_is_sum_right "_law_is_sum_right" (defScope s__law_is_sum_right) f (.ref cT) A outer s H E).env.cells (lamScope l__law_is_sum_right_l0).names []) c1) (lamBody l__law_is_sum_right_l0) cs).and sD
    have sU := (stab_heldL fu (LF l__law_is_sum_right_l1 (Q_sumr ++ "<lambda>") (cloFrom (cxOf (L2.CX P w) P w K mg base N__law_is_sum_right "_law_is_sum_right" (defScope s__law_is_sum_right) f (.ref cT) A outer s H E).env.cells (lamScope l__law_is_sum_right_l1).names []) c2) (lamBody l__law_is_sum_right_l1) cs).and sD
    refine ⟨o2, z, _, _, fm, fu, cl, _, _, muS r1 r2 (TL.tl z), _, sst r1 r2 (TL.tl z), ys, rfl, hC4.shw hcn, FM2, FU2, ⟨⟨shw_keep hcn hfm4, shw_keep hcn hc14, held_shw⟩, hDs, hDus⟩, ⟨⟨shw_keep hcn hfu, shw_keep hcn hc2, held_shw⟩, hDs, hDus⟩, sM, sU, hz, hz1, fun y c _ _ => muS_snoc _ _ _ _ _, fun y _ x hx => ?_, fitsS hle, shw_keep hcn hcl4, hyl, hys, fun H5 s5 => ⟨held_same s5, kq _ (sb.trans (SameT.of (same_hid hcn s5) T4))⟩⟩
    rcases List.mem_cons.mp hx with e | e
    · rw [e]; trivial
    · rw [List.mem_singleton.mp e]; trivial
end
end Vf
set_option Elab.async false
set_option linter.all false
set_option maxRecDepth 100000
set_option maxHeartbeats 4000000
namespace Vf
open PySem L2 PyProof.Rows
open NdefX LamX
abbrev s__law_are_words_right : Stmt := top 43
abbrev N__law_are_words_right : List Str := ["_law_code_here", "_law_letters_here", "_law_words", "_law_columns", "_law_made", "_law_memory", "_law_text", "_law_value"]
abbrev P__law_are_words_right : List Str := ["_law_code_here", "_law_letters_here", "_law_words", "_law_columns"]
theorem sc__law_are_words_right : FnScope N__law_are_words_right P__law_are_words_right (defScope s__law_are_words_right) := ⟨rfl, rfl, rfl, by decide +kernel, rfl, by decide +kernel, by decide +kernel⟩

abbrev l__law_are_words_right_l0 : Expr := (stVal ((defBody s__law_are_words_right).getD 1 (.Pass ⟨0, 0, 0, 0⟩)))
abbrev N__law_are_words_right_l0 : List Str := ["_law_column_here", "_law_words", "_law_value"]
abbrev P__law_are_words_right_l0 : List Str := ["_law_column_here"]
abbrev R__law_are_words_right_l0 : List Str := ["_law_words"]
theorem ns__law_are_words_right_l0 : NScope N__law_are_words_right_l0 P__law_are_words_right_l0 R__law_are_words_right_l0 (lamScope l__law_are_words_right_l0) := nscope_by (by decide +kernel)
theorem nc__law_are_words_right_l0 : cellsB (defScope s__law_are_words_right) (lamScope l__law_are_words_right_l0) = true := by decide +kernel
theorem nr__law_are_words_right_l0 : ∀ y ∈ R__law_are_words_right_l0, (y, NameKind.free) ∈ (lamScope l__law_are_words_right_l0).names := by decide +kernel

abbrev l__law_are_words_right_l1 : Expr := (stVal ((defBody s__law_are_words_right).getD 2 (.Pass ⟨0, 0, 0, 0⟩)))
abbrev N__law_are_words_right_l1 : List Str := ["_law_column_here", "_law_code_here", "_law_text"]
abbrev P__law_are_words_right_l1 : List Str := ["_law_column_here"]
abbrev R__law_are_words_right_l1 : List Str := ["_law_code_here", "_law_text"]
theorem ns__law_are_words_right_l1 : NScope N__law_are_words_right_l1 P__law_are_words_right_l1 R__law_are_words_right_l1 (lamScope l__law_are_words_right_l1) := nscope_by (by decide +kernel)
theorem nc__law_are_words_right_l1 : cellsB (defScope s__law_are_words_right) (lamScope l__law_are_words_right_l1) = true := by decide +kernel
theorem nr__law_are_words_right_l1 : ∀ y ∈ R__law_are_words_right_l1, (y, NameKind.free) ∈ (lamScope l__law_are_words_right_l1).names := by decide +kernel

abbrev l__law_are_words_right_l2 : Expr := (argN (stVal ((defBody s__law_are_words_right).getD 3 (.Pass ⟨0, 0, 0, 0⟩))) 3)
abbrev N__law_are_words_right_l2 : List Str := ["_law_column_here", "_law_code_here", "_law_text"]
abbrev P__law_are_words_right_l2 : List Str := ["_law_column_here"]
abbrev R__law_are_words_right_l2 : List Str := ["_law_code_here", "_law_text"]
theorem ns__law_are_words_right_l2 : NScope N__law_are_words_right_l2 P__law_are_words_right_l2 R__law_are_words_right_l2 (lamScope l__law_are_words_right_l2) := nscope_by (by decide +kernel)
theorem nc__law_are_words_right_l2 : cellsB (defScope s__law_are_words_right) (lamScope l__law_are_words_right_l2) = true := by decide +kernel
theorem nr__law_are_words_right_l2 : ∀ y ∈ R__law_are_words_right_l2, (y, NameKind.free) ∈ (lamScope l__law_are_words_right_l2).names := by decide +kernel

abbrev Q_words : Str := (envOfC "_law_are_words_right" (defScope s__law_are_words_right) 0 0 .none).qual
def spText (wd : Nat → Str) (z : Str) : Sp := fun vs H Q _ => ∃ y : Str, vs = [.str y] ∧ (∀ c ∈ TL.tl y, c ∈ TL.tl z) ∧ y.length ≤ 100 ∧ ∀ r H', TL.tl r = flatW wd (TL.tl y) → Same H H' → Q (.str r) H'
theorem joinL_nil : ∀ l : List (List Nat), TL.joinL [] l = l.flatten
  | [] => rfl
  | [a] => by simp [TL.joinL]
  | a :: b :: r => by
    show a ++ ([] ++ TL.joinL [] (b :: r)) = _
    rw [joinL_nil (b :: r)]; rfl
theorem join_nil_tl (ws : List Str) : TL.tl (Txt.join Str.empty ws) = (ws.map TL.tl).flatten := by
  rw [TL.join_eq, TL.tl_join]
  exact joinL_nil _
theorem sum_le {l : List Nat} {m : Nat} (h : ∀ x ∈ l, x ≤ m) : l.sum ≤ l.length * m := by
  induction l with
  | nil => simp
  | cons a r ih =>
    have h1 := h a (List.mem_cons_self ..)
    have h2 := ih fun x hx => h x (List.mem_cons_of_mem _ hx)
    rw [List.sum_cons, List.length_cons, Nat.succ_mul]
    omega
section
variable {P : Program} {w : World} {K : PySem.W.Frag} {mg : Str → Option Value} {base : Heap}
theorem lok_words0 {d : Addr} {kvs : List (Key × V)} {z : Str} {wd : Nat → Str} {fg c' : Addr} {cl : List (Str × Addr)} {q : Str} (hk : ∀ c ∈ TL.tl z, valV kvs (Sum.inr (sg c)) = some (.str (wd c))) (hw : ∀ c ∈ TL.tl z, (wd c).length ≤ 100) :
    LOk P w K mg base CX0 1 fg (LF l__law_are_words_right_l0 q cl c') (lamBody l__law_are_words_right_l0) P__law_are_words_right_l0 R__law_are_words_right_l0 (fun ws vs H Q E => ws = [some (.ref d)] ∧ H d = some (.dK kvs) ∧ spText wd z vs H Q E) := by
  refine lok_of ns__law_are_words_right_l0 (fun pm ctv us hl => match us, hl with | [_], _ => rfl) (fun ws vs H Q E h => ?_) (fun A outer s H vs ws Q E hr hl h => ?_)
  · obtain ⟨_, _, y, rfl, _⟩ := h
    rfl
  · obtain ⟨rfl, hd, y, rfl, hy, hyl, kq⟩ := h
    have hu := hu_of hr
    refine ⟨_, (pe_join pe_str (pe_lc (own := [("_law_value", 2)]) (g := gName 2) (by rfl) ns__law_are_words_right_l0.nd (pi_str (pv 0)) (blkOk_by (own := [("_law_value", 2)]) (N := N__law_are_words_right_l0) (sc := lamScope l__law_are_words_right_l0) (by decide +kernel)) (fun _ _ _ _ _ => pg_name (i := 2) ns__law_are_words_right_l0.nd rfl (Or.inl rfl)) (fun _ _ _ _ _ => pts_nil) (fun _ _ _ _ _ => (pe_dget hu (pv 1) (pv 2) (fun _ _ => rfl))))), ?_⟩
    refine ⟨⟨_, rfl⟩, _, rfl, y, rfl, fun D hD => lc_it walk_strS (fun j H3 => H3 D = some (.lst ((((TL.tl y).take j).map wd).map V.str)) ∧ Same H H3) ⟨upd_same, same_new hD⟩ (fun _ _ _ _ => trivial) ?_ ?_⟩
    · rintro j x H3' H3 hj ⟨hD3, s3⟩ ⟨rfl, c, hc, rfl⟩
      have hcz : c ∈ TL.tl z := hy c (List.mem_of_getElem? hc)
      refine ⟨rfl, ?_⟩
      refine lcYes ?_
      refine ⟨_, rfl, _, rfl, d, .str (wd c), rfl, ?_, _, hD3, ?_, ?_, s3.put hD⟩
      · have := DGet.k (k := Sum.inr (sg c)) (s3 _ _ hd)
        rw [hk c hcz] at this
        exact this
      · rw [List.length_map, List.length_map, List.length_take]; exact small1000 (by omega)
      · rw [upd_same, List.take_add_one, hc]
        simp
    · rintro H3 ⟨hD3, s3⟩
      rw [List.take_of_length_le (by rw [← TL.len_tl]; exact Nat.le_refl _)] at hD3
      have hsum : (((TL.tl y).map wd).map fun x => x.length).sum + ((TL.tl y).map wd).length * (Str.ofString "").length ≤ 16777216 := by
        have h1 := sum_le (l := ((TL.tl y).map wd).map fun x => x.length) (m := 100) fun x hx => by
          obtain ⟨w1, hw1, rfl⟩ := List.mem_map.mp hx
          obtain ⟨c, hc, rfl⟩ := List.mem_map.mp hw1
          exact hw c (hy c hc)
        rw [List.length_map, List.length_map, ← TL.len_tl] at h1
        have h0 : (Str.ofString "").length = 0 := rfl
        rw [h0, Nat.mul_zero]
        omega
      refine ⟨_, D, (TL.tl y).map wd, rfl, rfl, Or.inl (SqL.of hD3), hsum, kq _ H3 ?_ s3⟩
      have : TL.tl (Txt.join Str.empty ((TL.tl y).map wd)) = _ := join_nil_tl ((TL.tl y).map wd)
      refine this.trans ?_
      unfold flatW
      rw [List.map_map]
      rfl
theorem lok_words1 {fW ft : Addr} {fdW : FuncData} {t : V} {z z0 : Str} {rs : List Row} {es : List Int} {wd : Nat → Str} {ST : Hp → Prop} {fg c' : Addr} {cl : List (Str × Addr)} {q : Str} (FT : FV P w K mg base CX0 2 ft ST (spText wd z)) (m_law_walk : mg "_law_walk" = some (.ref fW)) (k_law_walk : PySem.W.keepIn K (.ref fW) = true) (FW : Fun K "_law_walk" "_law_walk" s__law_walk fW fdW) (b_law_walk : Binds K fdW P__law_walk []) (hg : Good z0.length rs es) (hst : Stab ST) (hw : ∀ c ∈ TL.tl z, ∀ x ∈ TL.tl (wd c), x ∈ TL.tl z0) :
    LOk P w K mg base CX0 3 fg (LF l__law_are_words_right_l1 q cl c') (lamBody l__law_are_words_right_l1) P__law_are_words_right_l1 R__law_are_words_right_l1 (fun ws vs H Q E => ws = [some t, some (.ref ft)] ∧ Dp K H t (codeD z0 rs es) ∧ ST H ∧ spMemF kdK (muW rs (TL.tl z0) wd) z vs H Q E) := by
  have G_law_walk : FnOk P w K mg base CX0 1 fW fdW P__law_walk (spWalk K) := ok_walk FW
  refine lok_of ns__law_are_words_right_l1 (fun pm ctv us hl => match us, hl with | [_], _ => rfl) (fun ws vs H Q E h => ?_) (fun A outer s H vs ws Q E hr hl h => ?_)
  · obtain ⟨_, _, _, y, rfl, _⟩ := h
    rfl
  · obtain ⟨rfl, hD, hS, y, rfl, hy, hyl, kq⟩ := h
    have hu := hu_of hr
    refine ⟨_, (pe_ix ix_tup (pe_call G_law_walk (hr.mono (by decide)) (by rfl) m_law_walk k_law_walk b_law_walk .nil pass0 (pa_cons (pv 1) (pa_cons pe_int (pa_cons (pcv 2 FT (hr.mono (by decide)) pass0 (pa_cons (pv 0) pa_nil)) pa_nil)))) pe_int (fun _ _ => rfl)), ?_⟩
    have hp := hg.pos
    refine ⟨_, rfl, rfl, hS, _, rfl, hS, y, rfl, hy, hyl, fun r H1 hr1 s1 => ?_⟩
    have hfl : ∀ x ∈ TL.tl r, x ∈ TL.tl z0 := fun x hx => by
      rw [hr1] at hx
      obtain ⟨l, h1, h2⟩ := List.mem_flatten.mp hx
      obtain ⟨c, hc, rfl⟩ := List.mem_map.mp h1
      exact hw c (hy c hc) x h2
    refine ⟨t, 0, z0, r, rs, es, rfl, hD.mv (Kl.same s1), hg.s, hfl, Int.le_refl _, by omega, fun t2 H2 s2 ht => ?_⟩
    rw [hr1] at ht
    exact ⟨t2, _, 0, _, rfl, rfl, SqT.of ht, rfl, kq _ _ (s1.trans s2) rfl⟩
theorem lok_words2 {fLL fW ft : Addr} {fdLL fdW : FuncData} {t : V} {z z0 : Str} {rs : List Row} {es : List Int} {wd : Nat → Str} {ST : Hp → Prop} {fg c' : Addr} {cl : List (Str × Addr)} {q : Str} (FT : FV P w K mg base CX0 2 ft ST (spText wd z)) (m_law_length : mg "_law_length" = some (.ref fLL)) (k_law_length : PySem.W.keepIn K (.ref fLL) = true) (FLL : Fun K "_law_length" "_law_length" s__law_length fLL fdLL) (b_law_length : Binds K fdLL P__law_length [])
    (m_law_walk : mg "_law_walk" = some (.ref fW)) (k_law_walk : PySem.W.keepIn K (.ref fW) = true) (FW : Fun K "_law_walk" "_law_walk" s__law_walk fW fdW) (b_law_walk : Binds K fdW P__law_walk []) (hg : Good z0.length rs es) (hst : Stab ST) (hw : ∀ c ∈ TL.tl z, ∀ x ∈ TL.tl (wd c), x ∈ TL.tl z0) :
    LOk P w K mg base CX0 3 fg (LF l__law_are_words_right_l2 q cl c') (lamBody l__law_are_words_right_l2) P__law_are_words_right_l2 R__law_are_words_right_l2 (fun ws vs H Q E => ws = [some t, some (.ref ft)] ∧ Dp K H t (codeD z0 rs es) ∧ ST H ∧ spDueF (fun y => lenR rs es (TL.tl z0) (flatW wd y)) z vs H Q E) := by
  have G_law_length : FnOk P w K mg base CX0 2 fLL fdLL P__law_length (spLLen K) := ok_llen FLL m_law_walk k_law_walk FW b_law_walk
  refine lok_of ns__law_are_words_right_l2 (fun pm ctv us hl => match us, hl with | [_], _ => rfl) (fun ws vs H Q E h => ?_) (fun A outer s H vs ws Q E hr hl h => ?_)
  · obtain ⟨_, _, _, y, rfl, _⟩ := h
    rfl
  · obtain ⟨rfl, hD, hS, y, rfl, hy, hyl, kq⟩ := h
    have hu := hu_of hr
    refine ⟨_, (pe_call G_law_length (hr.mono (by decide)) (by rfl) m_law_length k_law_length b_law_length .nil pass0 (pa_cons (pv 1) (pa_cons (pcv 2 FT (hr.mono (by decide)) pass0 (pa_cons (pv 0) pa_nil)) pa_nil))), ?_⟩
    refine ⟨_, rfl, rfl, hS, _, rfl, hS, y, rfl, hy, hyl, fun r H1 hr1 s1 => ?_⟩
    have hfl : ∀ x ∈ TL.tl r, x ∈ TL.tl z0 := fun x hx => by
      rw [hr1] at hx
      obtain ⟨l, h1, h2⟩ := List.mem_flatten.mp hx
      obtain ⟨c, hc, rfl⟩ := List.mem_map.mp h1
      exact hw c (hy c hc) x h2
    refine ⟨t, z0, r, rs, es, rfl, hD.mv (Kl.same s1), hg.s, hg.len, hg.pos, hfl, fun H2 s2 => ?_⟩
    rw [hr1]
    exact kq H2 (s1.trans s2)
theorem text_hid {wd : Nat → Str} {z : Str} {cs : Cs} {H : Hp} {vs : List V} {Q : VK} {E E' : XK} (hc : HeldC cs H) (h : spText wd z vs H Q E) :
    spText wd z vs (hid cs H) (fun v H2 => (∀ c o, cs.lookup c = some o → H2 c = none) → Q v (shw cs H2)) E' := by
  obtain ⟨y, ev, hy, hl, kk⟩ := h
  exact ⟨y, ev, hy, hl, fun r H' hr s1 hn => kk r (shw cs H') hr (same_up hc s1)⟩
structure TxtWo (K : PySem.W.Frag) (mg : Str → Option Value) (fMa fTr fIR : Addr) : Prop where
  m_law_made_code : mg "_law_made_code" = some (.ref fMa)
  k_law_made_code : PySem.W.keepIn K (.ref fMa) = true
  mtranslated : mg "translated" = some (.ref fTr)
  ktranslated : PySem.W.keepIn K (.ref fTr) = true
  m_law_is_right : mg "_law_is_right" = some (.ref fIR)
  k_law_is_right : PySem.W.keepIn K (.ref fIR) = true
def spWordsR (K : PySem.W.Frag) (NT : List NTab) : Sp := fun vs H Q _ => ∃ (t : V) (z0 z : Str) (d : Addr) (kvs : List (Key × V)) (wd : Nat → Str) (rs : List Row) (es : List Int) (cl : Addr) (ys : List (List Nat)), vs = [t, .str z, .ref d, .ref cl] ∧ Dp K H t (codeD z0 rs es) ∧ Good z0.length rs es ∧ z0.length ≤ 26 ∧ 1 ≤ z.length ∧ z.length ≤ 3 ∧ rs.length ≤ 40 ∧
  H d = some (.dK kvs) ∧ (∀ c ∈ TL.tl z, valV kvs (Sum.inr (sg c)) = some (.str (wd c))) ∧ (∀ c ∈ TL.tl z, (wd c).length ≤ 100) ∧ (∀ c ∈ TL.tl z, ∀ x ∈ TL.tl (wd c), x ∈ TL.tl z0) ∧
  H cl = some (.lst (ys.map fun l => V.str (mkS l))) ∧ ys.length ≤ 1000 ∧ (∀ y ∈ ys, y.length ≤ 100 ∧ ∀ x ∈ y, x ∈ TL.tl z) ∧ TabsN NT H ∧ ∀ H', SameT NT H H' → Q (.bl true) H'
theorem ok_wordsr {NT : List NTab} {f fMa fTr fIR fLL fW C CV cT pT : Addr} {fd fdMa fdTr fdIR fdLL fdW : FuncData} (F : FunC K "_law_are_words_right" "_law_are_words_right" s__law_are_words_right f fd cT) (T1 : TxtN2 base mg NT cT pT (fun _ _ => Q_words ++ "<lambda>")) (T : TxtWo K mg fMa fTr fIR)
    (m_law_length : mg "_law_length" = some (.ref fLL)) (k_law_length : PySem.W.keepIn K (.ref fLL) = true) (FLL : Fun K "_law_length" "_law_length" s__law_length fLL fdLL) (b_law_length : Binds K fdLL P__law_length [])
    (m_law_walk : mg "_law_walk" = some (.ref fW)) (k_law_walk : PySem.W.keepIn K (.ref fW) = true) (FW : Fun K "_law_walk" "_law_walk" s__law_walk fW fdW) (b_law_walk : Binds K fdW P__law_walk [])
    (G_law_made_code : FnOk P w K mg base (L2.CX P w) 6 fMa fdMa P__law_made_code (spMadeC K C)) (b_law_made_code : Binds K fdMa P__law_made_code [])
    (Gtranslated : FnOk P w K mg base (L2.CX P w) 11 fTr fdTr P_translated (spTrans K NT C CV)) (btranslated : Binds K fdTr P_translated [])
    (G_law_is_right : FnOk P w K mg base CX0 10 fIR fdIR P__law_is_right (spIsRight P w K mg base kdK kddK C)) (b_law_is_right : Binds K fdIR P__law_is_right []) : FnOk P w K mg base (L2.CX P w) 12 f fd P__law_are_words_right (spWordsR K NT) := by
  refine F.okX sc__law_are_words_right (fun vs H Q E h => ?_) (fun A outer s H vs Q E hr h => ?_)
  · obtain ⟨t, z0, z, d, kvs, wd, rs, es, cl, ys, rfl, _⟩ := h
    rfl
  · obtain ⟨t, z0, z, d, kvs, wd, rs, es, cl, ys, rfl, hD, hg, hz0, hz1, hz, h40, hd, hk, hw1, hw, hcl, hyl, hys, hT, kq⟩ := h
    have hu := hu_of hr
    have passL : Passes (L2.CX P w) (cxOf (L2.CX P w) P w K mg base N__law_are_words_right "_law_are_words_right" (defScope s__law_are_words_right) f (.ref cT) A outer s H E) E := passes_call (takes_of rfl rfl rfl rfl) (fun _ _ _ _ h => h)
    refine ⟨_, (pss_cons (ps_set (i := 4) sc__law_are_words_right.nd rfl (Or.inl rfl) (pe_call Gtranslated (hr.mono (by decide)) (by rfl) T.mtranslated T.ktranslated btranslated .nil passL (pa_cons (pv 1) (pa_cons (pv 2) (pa_cons (pe_call G_law_made_code (hr.mono (by decide)) (by rfl) T.m_law_made_code T.k_law_made_code b_law_made_code .nil passL (pa_cons (pv 0) pa_nil)) pa_nil)))))
      (pss_cons (ps_set (i := 6) sc__law_are_words_right.nd rfl (Or.inr rfl) (pe_lamV T1.tb rfl T1.tm rfl T1.tu rfl (fun y hy e => Or.inl (cells_free nc__law_are_words_right_l0 y hy e))))
      (pss_cons (ps_set (i := 5) sc__law_are_words_right.nd rfl (Or.inl rfl) (pe_lamV T1.tb rfl T1.tm rfl T1.tu rfl (fun y hy e => Or.inl (cells_free nc__law_are_words_right_l1 y hy e))))
      (pss_one (ps_ret (pe_callC cxok0 G_law_is_right (hr.mono (by decide)) (fun _ => rfl) (by rfl) T.m_law_is_right T.k_law_is_right b_law_is_right .nil pass0 (pa_cons (pv 4) (pa_cons (pv 1) (pa_cons (pv 5) (pa_cons (pe_lamV T1.tb rfl T1.tm rfl T1.tu rfl (fun y hy e => Or.inl (cells_free nc__law_are_words_right_l2 y hy e))) (pa_cons (pv 3) pa_nil))))))))))), ?_⟩
    refine ⟨_, rfl, _, rfl, _, rfl, t, z0, rs, es, rfl, hD, hg, hz0, by omega, fun o H1 hC s1 => ?_⟩
    have hT1 : TabsN NT H1 := hT.ext fun b o e => s1 b o e
    refine ⟨z, d, o, z0, rs, es, kvs, wd, rfl, hC, hg.s, hg.len, hg.pos, h40, hz0, hz, s1 _ _ hd, hk, hT1, fun _ o2 H2 st2 hC2 hle => ?_, fun i c hi hbad _ => absurd (hw c (List.mem_of_getElem? hi)) hbad⟩
    have sa : SameT NT H H2 := (SameT.of s1 hT).trans st2
    refine ⟨st2.tab, fun ft c0 H3 eN back T3 nf hft hc0 => ?_⟩
    have st3 : SameT NT H2 H3 := ⟨eN, back, T3⟩
    refine ⟨T3, fun fm c1 H4 eN4 back4 T4 nf4 hfm hc1 => ?_⟩
    have st4 : SameT NT H3 H4 := ⟨eN4, back4, T4⟩
    refine ⟨_, rfl, _, rfl, _, rfl, T4, fun fu c2 H5 eN5 back5 T5 nf5 hfu hc2 => ⟨_, rfl, fun cs hcap hcn => ?_⟩⟩
    have st5 : SameT NT H4 H5 := ⟨eN5, back5, T5⟩
    have sb := ((sa.trans st3).trans st4).trans st5
    have hD5 := hD.mv (kl_ext sb.ext)
    have hd5 := sb.ext _ _ hd (fun _ z => nomatch z)
    have hcl5 := sb.ext _ _ hcl (fun _ z => nomatch z)
    have hft5 := (st4.trans st5).ext _ _ hft fnL_ne
    have hc05 := (st4.trans st5).ext _ _ hc0 (fun _ z => nomatch z)
    have hfm5 := st5.ext _ _ hfm fnL_ne
    have hc15 := st5.ext _ _ hc1 (fun _ z => nomatch z)
    have hC5 := stab_code H2 H5 hC2 ((st3.trans st4).trans st5).ext
    have hcap0 := (cap_of (scope := lamScope l__law_are_words_right_l0) (fr := R__law_are_words_right_l0) (js := [2]) hcap (cells_free nc__law_are_words_right_l0) nr__law_are_words_right_l0 rfl).cut
    have hcap1 := (cap_of (scope := lamScope l__law_are_words_right_l1) (fr := R__law_are_words_right_l1) (js := [0, 6]) hcap (cells_free nc__law_are_words_right_l1) nr__law_are_words_right_l1 rfl).cut
    have hcap2 := (cap_of (scope := lamScope l__law_are_words_right_l2) (fr := R__law_are_words_right_l2) (js := [0, 6]) hcap (cells_free nc__law_are_words_right_l2) nr__law_are_words_right_l2 rfl).cut
    have ap1 := cut_apart hcap (cells_free nc__law_are_words_right_l0) (cells_free nc__law_are_words_right_l1) (by decide +kernel)
    have ap2 := cut_apart hcap (cells_free nc__law_are_words_right_l0) (cells_free nc__law_are_words_right_l2) (by decide +kernel)
    have FT0 := (fv_of_lok cxok0 (lok_words0 (P := P) (w := w) (K := K) (mg := mg) (base := base) (fg := ft) (c' := c0) (cl := _) (q := Q_words ++ "<lambda>") (d := d) (kvs := kvs) hk hw1) hcap0).mono (by decide : 1 ≤ 2)
    have FT := FT0.imp (S' := fun H5 => HeldL ft (LF l__law_are_words_right_l0 (Q_words ++ "<lambda>") (cloFrom (cxOf (L2.CX P w) P w K mg base N__law_are_words_right "_law_are_words_right" (defScope s__law_are_words_right) f (.ref cT) A outer s H E).env.cells (lamScope l__law_are_words_right_l0).names []) c0) (lamBody l__law_are_words_right_l0) (cut (cloFrom (cxOf (L2.CX P w) P w K mg base N__law_are_words_right "_law_are_words_right" (defScope s__law_are_words_right) f (.ref cT) A outer s H E).env.cells (lamScope l__law_are_words_right_l0).names []) cs) H5 ∧ H5 d = some (.dK kvs)) (sp' := spText wd z)
      (fun H h => h.1) (fun vs H Q E h q => ⟨rfl, hid_keep h.1.cells h.2 (fun _ z => nomatch z), text_hid h.1.cells q⟩)
    have sT := (stab_heldL ft (LF l__law_are_words_right_l0 (Q_words ++ "<lambda>") (cloFrom (cxOf (L2.CX P w) P w K mg base N__law_are_words_right "_law_are_words_right" (defScope s__law_are_words_right) f (.ref cT) A outer s H E).env.cells (lamScope l__law_are_words_right_l0).names []) c0) (lamBody l__law_are_words_right_l0) (cut (cloFrom (cxOf (L2.CX P w) P w K mg base N__law_are_words_right "_law_are_words_right" (defScope s__law_are_words_right) f (.ref cT) A outer s H E).env.cells (lamScope l__law_are_words_right_l0).names []) cs)).and (stab_at d (.dK kvs) (fun _ z => nomatch z))
    have FM := (fv_of_lok cxok0 (lok_words1 (P := P) (w := w) (mg := mg) (base := base) (fg := fm) (c' := c1) (cl := _) (q := Q_words ++ "<lambda>") (t := t) FT m_law_walk k_law_walk FW b_law_walk hg sT hw) hcap1).mono (by decide : 3 ≤ 8)
    have FU := (fv_of_lok cxok0 (lok_words2 (P := P) (w := w) (mg := mg) (base := base) (fg := fu) (c' := c2) (cl := _) (q := Q_words ++ "<lambda>") (t := t) FT m_law_length k_law_length FLL b_law_length m_law_walk k_law_walk FW b_law_walk hg sT hw) hcap2).mono (by decide : 3 ≤ 8)
    have FM2 := FM.imp (S' := fun H5 => HeldL fm (LF l__law_are_words_right_l1 (Q_words ++ "<lambda>") (cloFrom (cxOf (L2.CX P w) P w K mg base N__law_are_words_right "_law_are_words_right" (defScope s__law_are_words_right) f (.ref cT) A outer s H E).env.cells (lamScope l__law_are_words_right_l1).names []) c1) (lamBody l__law_are_words_right_l1) (cut (cloFrom (cxOf (L2.CX P w) P w K mg base N__law_are_words_right "_law_are_words_right" (defScope s__law_are_words_right) f (.ref cT) A outer s H E).env.cells (lamScope l__law_are_words_right_l1).names []) cs) H5 ∧ Dp K H5 t (codeD z0 rs es) ∧ (HeldL ft (LF l__law_are_words_right_l0 (Q_words ++ "<lambda>") (cloFrom (cxOf (L2.CX P w) P w K mg base N__law_are_words_right "_law_are_words_right" (defScope s__law_are_words_right) f (.ref cT) A outer s H E).env.cells (lamScope l__law_are_words_right_l0).names []) c0) (lamBody l__law_are_words_right_l0) (cut (cloFrom (cxOf (L2.CX P w) P w K mg base N__law_are_words_right "_law_are_words_right" (defScope s__law_are_words_right) f (.ref cT) A outer s H E).env.cells (lamScope l__law_are_words_right_l0).names []) cs) H5 ∧ H5 d = some (.dK kvs))) (sp' := spMemF kdK (muW rs (TL.tl z0) wd) z)
      (fun H h => h.1) (fun vs H Q E h q => ⟨rfl, h.2.1.mv (kl_hid h.1.cells), ⟨heldL_hid h.2.2.1 h.1.cells (hcap.data.cut _) ap1, hid_keep h.1.cells h.2.2.2 (fun _ z => nomatch z)⟩, mem_hid h.1.cells q⟩)
    have FU2 := FU.imp (S' := fun H5 => HeldL fu (LF l__law_are_words_right_l2 (Q_words ++ "<lambda>") (cloFrom (cxOf (L2.CX P w) P w K mg base N__law_are_words_right "_law_are_words_right" (defScope s__law_are_words_right) f (.ref cT) A outer s H E).env.cells (lamScope l__law_are_words_right_l2).names []) c2) (lamBody l__law_are_words_right_l2) (cut (cloFrom (cxOf (L2.CX P w) P w K mg base N__law_are_words_right "_law_are_words_right" (defScope s__law_are_words_right) f (.ref cT) A outer s H E).env.cells (lamScope l__law_are_words_right_l2).names []) cs) H5 ∧ Dp K H5 t (codeD z0 rs es) ∧ (HeldL ft (LF l__law_are_words_right_l0 (Q_words ++ "<lambda>") (cloFrom (cxOf (L2.CX P w) P w K mg base N__law_are_words_right "_law_are_words_right" (defScope s__law_are_words_right) f (.ref cT) A outer s H E).env.cells (lamScope l__law_are_words_right_l0).names []) c0) (lamBody l__law_are_words_right_l0) (cut (cloFrom (cxOf (L2.CX P w) P w K mg base N__law_are_words_right "_law_are_words_right" (defScope s__law_are_words_right) f (.ref cT) A outer s H E).env.cells (lamScope l__law_are_words_right_l0).names []) cs) H5 ∧ H5 d = some (.dK kvs))) (sp' := spDueF (fun y => lenR rs es (TL.tl z0) (flatW wd y)) z)
      (fun H h => h.1) (fun vs H Q E h q => ⟨rfl, h.2.1.mv (kl_hid h.1.cells), ⟨heldL_hid h.2.2.1 h.1.cells (hcap.data.cut _) ap2, hid_keep h.1.cells h.2.2.2 (fun _ z => nomatch z)⟩, due_hid h.1.cells q⟩)
    have sD := (stab_dp (K := K) (v := t) (d := codeD z0 rs es)).and sT
    have sM := (stab_heldL fm (LF l__law_are_words_right_l1 (Q_words ++ "<lambda>") (cloFrom (cxOf (L2.CX P w) P w K mg base N__law_are_words_right "_law_are_words_right" (defScope s__law_are_words_right) f (.ref cT) A outer s H E).env.cells (lamScope l__law_are_words_right_l1).names []) c1) (lamBody l__law_are_words_right_l1) (cut (cloFrom (cxOf (L2.CX P w) P w K mg base N__law_are_words_right "_law_are_words_right" (defScope s__law_are_words_right) f (.ref cT) A outer s H E).env.cells (lamScope l__law_are_words_right_l1).names []) cs)).and sD
    have sU := (stab_heldL fu (LF l__law_are_words_right_l2 (Q_words ++ "<lambda>") (cloFrom (cxOf (L2.CX P w) P w K mg base N__law_are_words_right "_law_are_words_right" (defScope s__law_are_words_right) f (.ref cT) A outer s H E).env.cells (lamScope l__law_are_words_right_l2).names []) c2) (lamBody l__law_are_words_right_l2) (cut (cloFrom (cxOf (L2.CX P w) P w K mg base N__law_are_words_right "_law_are_words_right" (defScope s__law_are_words_right) f (.ref cT) A outer s H E).env.cells (lamScope l__law_are_words_right_l2).names []) cs)).and sD
    have hDs := hD5.mv (Kl.same (same_shw hcn))
    have hTs : HeldL ft (LF l__law_are_words_right_l0 (Q_words ++ "<lambda>") (cloFrom (cxOf (L2.CX P w) P w K mg base N__law_are_words_right "_law_are_words_right" (defScope s__law_are_words_right) f (.ref cT) A outer s H E).env.cells (lamScope l__law_are_words_right_l0).names []) c0) (lamBody l__law_are_words_right_l0) (cut (cloFrom (cxOf (L2.CX P w) P w K mg base N__law_are_words_right "_law_are_words_right" (defScope s__law_are_words_right) f (.ref cT) A outer s H E).env.cells (lamScope l__law_are_words_right_l0).names []) cs) (shw cs H5) ∧ (shw cs H5) d = some (.dK kvs) := ⟨⟨shw_keep hcn hft5, shw_keep hcn hc05, held_shw.cut _⟩, shw_keep hcn hd5⟩
    refine ⟨o2, z, _, _, fm, fu, cl, _, _, muW rs (TL.tl z0) wd, _, wst rs (TL.tl z0) wd, ys, rfl, hC5.shw hcn, FM2, FU2, ⟨⟨shw_keep hcn hfm5, shw_keep hcn hc15, held_shw.cut _⟩, hDs, hTs⟩, ⟨⟨shw_keep hcn hfu, shw_keep hcn hc2, held_shw.cut _⟩, hDs, hTs⟩, sM, sU, hz, hz1, fun y c _ _ => muW_snoc _ _ _ _ _, fun y _ => trivial, fitsW hle, shw_keep hcn hcl5, hyl, hys, fun H6 s6 => ⟨held_same s6, kq _ (sb.trans (SameT.of (same_hid hcn s6) T5))⟩⟩
end
end Vf
set_option Elab.async false
set_option linter.all false
set_option maxRecDepth 100000
set_option maxHeartbeats 4000000
namespace Vf
open PySem L2 PyProof.Rows
open NdefX LamX
def wheelRow (m : Nat) (n : Int) (s : Nat) : Row := List.replicate m (((s : Int) + 1).fmod n, 1)
def wheelR (m n : Nat) : List Row := (List.range n).map fun s => wheelRow m (n : Int) s
theorem wheel_len (m n : Nat) : (wheelR m n).length = n := by unfold wheelR; rw [List.length_map, List.length_range]
theorem wheel_good {m n : Nat} (hn : 0 < n) : Good m (wheelR m n) (List.replicate n 0) := by
  refine ⟨by rw [wheel_len, List.length_replicate], by rw [wheel_len]; exact hn, fun r hr => ?_, fun e he => ?_⟩
  · obtain ⟨s, hs, rfl⟩ := List.mem_map.mp hr
    refine ⟨List.length_replicate, fun gb hg => ?_⟩
    rw [(List.mem_replicate.mp hg).2, wheel_len]
    have h1 : (0 : Int) ≤ ((s : Int) + 1).fmod n := Int.fmod_nonneg (by omega) (by omega)
    have h2 : ((s : Int) + 1).fmod n < n := Int.fmod_lt_of_pos _ (by omega)
    exact ⟨h1, h2, Int.zero_le_ofNat 1, (by show (1 : Int) < 100; decide)⟩
  · rw [(List.mem_replicate.mp he).2]
    exact ⟨by decide, by decide⟩
section
variable {P : Program} {w : World} {K : PySem.W.Frag} {mg : Str → Option Value} {base : Heap}
def spWheel (K : PySem.W.Frag) : Sp := fun vs H Q _ => ∃ (z : Str) (n : Nat), vs = [.str z, .int n] ∧ z.length ≤ 3 ∧ 0 < n ∧ n ≤ 50 ∧ ∀ t H', Same H H' → Dp K H' (.ref t) (codeD z (wheelR z.length n) (List.replicate n 0)) → Q (.ref t) H'
abbrev s__law_wheel : Stmt := top 44
abbrev N__law_wheel : List Str := ["_law_letters_here", "_law_size", "_law_rows", "_law_state", "_law_letter"]
abbrev P__law_wheel : List Str := ["_law_letters_here", "_law_size"]
theorem sc__law_wheel : FnScope N__law_wheel P__law_wheel (defScope s__law_wheel) := ⟨rfl, rfl, rfl, by decide +kernel, rfl, by decide +kernel, by decide +kernel⟩

theorem ok_wheel {f : Addr} {fd : FuncData} (F : Fun K "_law_wheel" "_law_wheel" s__law_wheel f fd) (T : TxtA K mg) : FnOk P w K mg base CX0 1 f fd P__law_wheel (spWheel K) := by
  refine F.ok sc__law_wheel (fun vs H Q E h => ?_) (fun cdv A outer s H vs Q E hr h => ?_)
  · obtain ⟨z, n, rfl, _⟩ := h
    rfl
  · obtain ⟨z, n, rfl, hz, hn0, hn, k⟩ := h
    have hu := hu_of hr
    refine ⟨_, (pss_cons (ps_setLc (i := 2) (own := [("_law_state", 3)]) (g := gName 3) (by rfl) sc__law_wheel.nd rfl rfl (sw_true rfl rfl rfl (by decide +kernel)) (pi_range1 (by rfl) T.range (pa_cons (pv 1) pa_nil)) (blkOk_by (own := [("_law_state", 3)]) (N := N__law_wheel) (sc := defScope s__law_wheel) (by decide +kernel)) (fun _ _ _ _ _ => pg_name (i := 3) sc__law_wheel.nd rfl (Or.inr rfl)) (fun _ _ _ _ _ => pts_nil) (fun _ _ _ _ _ => (pe_lc (own := [("_law_letter", 4)]) (g := gName 4) (by rfl) sc__law_wheel.nd (pi_str (pv 0)) (blkOk_by (own := [("_law_letter", 4)]) (N := N__law_wheel) (by with_unfolding_all rfl)) (fun _ _ _ _ _ => pg_name (i := 4) sc__law_wheel.nd rfl (Or.inl rfl)) (fun _ _ _ _ _ => pts_nil) (fun _ _ _ _ _ => (pe_tup (pa_cons (pe_op op_modN (pe_op op_add (pv 3) pe_int) (pv 1)) (pa_cons pe_int pa_nil)))))))
      (pss_one (ps_ret (pe_tup (pa_cons (pv 0) (pa_cons (pv 2) (pa_cons (pe_lc (own := [("_law_state", 3)]) (g := gName 3) (by rfl) sc__law_wheel.nd (pi_range1 (by rfl) T.range (pa_cons (pv 1) pa_nil)) (blkOk_by (own := [("_law_state", 3)]) (N := N__law_wheel) (sc := defScope s__law_wheel) (by decide +kernel)) (fun _ _ _ _ _ => pg_name (i := 3) sc__law_wheel.nd rfl (Or.inl rfl)) (fun _ _ _ _ _ => pts_nil) (fun _ _ _ _ _ => pe_int)) pa_nil))))))), ?_⟩
    have hLz : (TL.tl z).length = z.length := (TL.len_tl z).symm
    refine ⟨_, rfl, (n : Int), rfl, by omega, by omega, fun D hD => lc_range (lo := 0) (n := n) (fun j H3 => ∃ us, H3 D = some (.lst us) ∧ DpAll K (L2.del H3 D) us (((List.range j).map fun s => wheelRow z.length (n : Int) s).map rowD) ∧ Same H H3) ⟨[], upd_same, .nil, same_new hD⟩ ?_ ?_⟩
    · rintro j H3 hj ⟨us, hD3, hu3, s3⟩
      refine ⟨rfl, ?_⟩
      refine lcYes ?_
      refine ⟨_, rfl, z, rfl, fun D2 hD2 => lc_it walk_strS (fun i H4 => ∃ ws, H4 D2 = some (.lst ws) ∧ DpAll K (L2.del (L2.del H4 D) D2) ws ((List.replicate i (((j : Int) + 1).fmod n, (1 : Int))).map tupD) ∧ Same H3 H4) ⟨[], upd_same, .nil, same_new hD2⟩ (fun _ _ _ _ => trivial) ?_ ?_⟩
      · rintro i x H4' H4 hi ⟨ws, hD4, hw4, s4⟩ ⟨rfl, c, hc, rfl⟩
        have hD34 := s4 _ _ hD3
        have hwl : ws.length = i := by rw [hw4.length, List.length_map, List.length_replicate]
        refine ⟨rfl, ?_⟩
        refine lcYes ?_
        refine ⟨_, rfl, _, _, rfl, rfl, _, rfl, _, _, rfl, rfl, (by show (n : Int) ≠ 0; omega), by show 2 ≤ sizeLine; decide, fun q hq => ⟨ws, by rw [upd_ne (ne_of_none hD4 hq)]; exact hD4, small1000 (by omega), ws ++ [.ref q], upd_same, ?_, (s4.trans (same_new hq)).put hD2⟩⟩
        have nq2 : q ≠ D2 := (ne_of_none hD4 hq).symm
        have nqD : q ≠ D := (ne_of_none hD34 hq).symm
        rw [List.replicate_succ', List.map_append]
        refine (hw4.mv fun b o e _ => ?_).snoc (.tup (SqT.of ?_) (.cons (.int _) (.cons (.int _) .nil)))
        · obtain ⟨h1, h2⟩ := del_some e
          obtain ⟨h3, h4⟩ := del_some h2
          rw [del_ne h1, del_ne h3, upd_ne h1, upd_ne (ne_of_none h4 hq)]
          exact h4
        · rw [del_ne nq2, del_ne nqD, upd_ne nq2, upd_same]
          show some (HO.tup [V.int (((0 : Int) + (j : Nat) + 1).fmod n), V.int 1]) = _
          rw [Int.zero_add]
      · rintro H4 ⟨ws, hD4, hw4, s4⟩
        have hD34 := s4 _ _ hD3
        have nD2 : D2 ≠ D := fun e => by rw [e, hD3] at hD2; cases hD2
        have hul : us.length = j := by rw [hu3.length, List.length_map, List.length_map, List.length_range]
        refine ⟨us, hD34, small1000 (by omega), us ++ [.ref D2], upd_same, ?_, (s3.trans s4).put hD⟩
        rw [del_upd, List.range_succ, List.map_append, List.map_append]
        refine (hu3.mv ((Kl.same s4).del D)).snoc (.lst (SqL.of (by rw [del_ne nD2]; exact hD4)) ?_)
        exact hw4.mv (Kl.undel _ _)
    · rintro H3 ⟨us, hD3, hu3, s3⟩
      have hu3 : DpAll K H3 us ((wheelR z.length n).map rowD) := hu3.mv (Kl.undel _ _)
      refine ⟨_, rfl, _, rfl, _, rfl, (n : Int), rfl, by omega, by omega, fun D3 hD3' => lc_range (lo := 0) (n := n) (fun j H4 => H4 D3 = some (.lst ((List.replicate j (0 : Int)).map V.int)) ∧ Same H3 H4) ⟨upd_same, same_new hD3'⟩ ?_ ?_⟩
      · rintro j H4 hj ⟨hD4, s4⟩
        refine ⟨rfl, ?_⟩
        refine lcYes ?_
        refine ⟨_, hD4, ?_, ?_, s4.put hD3'⟩
        · rw [List.length_map, List.length_replicate]; exact small1000 (by omega)
        · rw [upd_same, List.replicate_succ', List.map_append]
          rfl
      · rintro H4 ⟨hD4, s4⟩
        refine ⟨by show 3 ≤ sizeLine; decide, fun t ht => k t _ ((s3.trans s4).trans (same_new ht)) ?_⟩
        have st := s4.trans (same_new (o := .tup [.str z, .ref D, .ref D3]) ht)
        exact .tup (SqT.of upd_same) (.cons (.str _) (.cons (.lst (SqL.of (st _ _ hD3)) (hu3.mv (Kl.same st))) (.cons (.lst (SqL.of (same_new (o := .tup [.str z, .ref D, .ref D3]) ht _ _ hD4)) (dpAll_ints K _ _)) .nil)))
end
end Vf
set_option Elab.async false
set_option linter.all false
set_option maxRecDepth 100000
set_option maxHeartbeats 4000000
namespace Vf
open PySem L2 PyProof.Rows
theorem wheel_step {m n s c : Nat} {L : List Nat} (hL : L.length = m) (hc : c ∈ L) (hs : s < n) : (stepR (wheelR m n) L ((s : Int), 0) c).1 = (((s + 1) % n : Nat) : Int) := by
  have h1 : (wheelR m n).getD ((s : Int)).toNat [] = wheelRow m (n : Int) s := by
    rw [Int.toNat_natCast, List.getD_eq_getElem?_getD]
    unfold wheelR
    rw [List.getElem?_map, List.getElem?_range hs]
    rfl
  have h2 : (wheelRow m (n : Int) s).getD (L.idxOf c) (0, 0) = (((s : Int) + 1).fmod n, 1) := by
    have hi : L.idxOf c < m := by rw [← hL]; exact idx_lt hc
    unfold wheelRow
    rw [List.getD_eq_getElem?_getD, List.getElem?_replicate, if_pos hi]
    rfl
  unfold stepR
  dsimp only
  rw [h1, h2]
  show ((s : Int) + 1).fmod n = _
  rw [Int.fmod_eq_emod_of_nonneg _ (by omega)]
  rfl
theorem wheel_walk {m n c : Nat} {L : List Nat} (hL : L.length = m) (hc : c ∈ L) (hn : 0 < n) : ∀ k, (walkR (wheelR m n) L 0 (List.replicate k c)).1 = ((k % n : Nat) : Int)
  | 0 => by rw [Nat.zero_mod]; rfl
  | k + 1 => by
    rw [List.replicate_succ', walk_snoc, step_fst, wheel_walk hL hc hn k, wheel_step hL hc (Nat.mod_lt _ hn), Nat.mod_add_mod]
def wkey (a b k : Nat) : List Key := [Sum.inl ((k % a : Nat) : Int), Sum.inl ((k % b : Nat) : Int)]
theorem wheels_all {m a b c : Nat} {L : List Nat} (hL : L.length = m) (hc : c ∈ L) (ha : 0 < a) (hb : 0 < b) {N : Nat} (hle : (turns (sst (wheelR m a) (wheelR m b) L) L [Sum.inl 0, Sum.inl 0] N).1.length ≤ N) (k : Nat) : wkey a b k ∈ (turns (sst (wheelR m a) (wheelR m b) L) L [Sum.inl 0, Sum.inl 0] N).1 := by
  have F := full_of hle
  have := (made_walk (bt := fun _ _ => 0) F (List.replicate k c) [Sum.inl 0, Sum.inl 0] 0 (List.mem_of_getElem? F.s0_) (fun x hx => by rw [(List.mem_replicate.mp hx).2]; exact hc)).2
  rw [muS_fold] at this
  unfold muS at this
  rw [wheel_walk hL hc ha, wheel_walk hL hc hb] at this
  exact this
theorem wheels_ge {m a b c : Nat} {L : List Nat} (hL : L.length = m) (hc : c ∈ L) (ha : 0 < a) (hb : 0 < b) {N M : Nat} (hn : ((List.range M).map (wkey a b)).Nodup) (hle : (turns (sst (wheelR m a) (wheelR m b) L) L [Sum.inl 0, Sum.inl 0] N).1.length ≤ N) :
    M ≤ (turns (sst (wheelR m a) (wheelR m b) L) L [Sum.inl 0, Sum.inl 0] N).1.length := by
  have := nodup_le hn fun x hx => by
    obtain ⟨k, _, rfl⟩ := List.mem_map.mp hx
    exact wheels_all hL hc ha hb hle k
  rw [List.length_map, List.length_range] at this
  exact this
theorem nodup58 : ((List.range 40).map (wkey 5 8)).Nodup := by decide +kernel
theorem nodup59 : ((List.range 45).map (wkey 5 9)).Nodup := by decide +kernel
theorem wheels58 {z : Str} {c : Nat} (hc : c ∈ TL.tl z) : (turns (sst (wheelR z.length 5) (wheelR z.length 8) (TL.tl z)) (TL.tl z) [Sum.inl 0, Sum.inl 0] 40).1.length = 40 := by
  have hL : (TL.tl z).length = z.length := (TL.len_tl z).symm
  have h1 := sst_len (z := z) (wheel_good (m := z.length) (n := 5) (by decide)).s (wheel_good (m := z.length) (n := 8) (by decide)).s (by rw [wheel_len]; decide) (by rw [wheel_len]; decide) (by rw [wheel_len, wheel_len]; decide)
  exact Nat.le_antisymm h1 (wheels_ge hL hc (by decide) (by decide) nodup58 h1)
theorem wheels59 {z : Str} {c : Nat} (hc : c ∈ TL.tl z) : 40 < (turns (sst (wheelR z.length 5) (wheelR z.length 9) (TL.tl z)) (TL.tl z) [Sum.inl 0, Sum.inl 0] 40).1.length := by
  have hL : (TL.tl z).length = z.length := (TL.len_tl z).symm
  refine Nat.lt_of_not_le fun h1 => ?_
  have := wheels_ge hL hc (by decide) (by decide) nodup59 h1
  exact absurd (Nat.le_trans this h1) (by decide)
end Vf
set_option Elab.async false
set_option linter.all false
set_option maxRecDepth 100000
set_option maxHeartbeats 4000000
/-! several except clauses, some with a name -/
namespace Vf
open PySem L2 PySem.Spec PyProof.Rows
abbrev Suite := Addr → Value → Option Addr → TS
/-- behind a named clause the name is gone -/
def gone (i : Nat) (D : Ends) : Ends := { nx := fun σ H => D.nx (σ.set i none) H, rt := D.rt, bk := fun σ H => D.bk (σ.set i none) H, ct := fun σ H => D.ct (σ.set i none) H }
def wClauses (K : PySem.W.Frag) (Wout : WX) (D : Ends) : List (Value × Option Nat × Suite) → WX
  | [] => Wout
  | (c, none, ts) :: r => fun cls d σ H => ∃ b, PySem.W.exmOne K cls c = some b ∧ (b = true → ∀ a, H a = none → ts a cls d D σ H) ∧ (b = false → wClauses K Wout D r cls d σ H)
  | (c, some i, ts) :: r => fun cls d σ H => ∃ b, PySem.W.exmOne K cls c = some b ∧ (b = true → ∀ a, H a = none → ts a cls d (gone i D) (σ.set i (some (.ref a))) H) ∧ (b = false → wClauses K Wout D r cls d σ H)
inductive Clauses (X : Cx) : List ExceptHandler → List (Value × Option Nat × Suite) → Prop
  | nil : Clauses X [] []
  | plain {x : Str} {c : Value} {ts : Suite} {b₀ : Stmt} {suite : List Stmt} {np pos' : Pos} {hds : List ExceptHandler} {l : List (Value × Option Nat × Suite)} (hc : Names X x c)
      (hsu : ∀ (a : Addr) (oe : Obj) (cls : Value) (d : Option Addr) (pn : List (Addr × Obj)), Zc cls d oe → (∃ vs, oe.data = .fields vs) → PSs (X.suite a ((a, oe) :: pn)) (b₀ :: suite) (ts a cls d)) (r : Clauses X hds l) :
      Clauses X (.ExceptHandler (some (.Name x np)) none (b₀ :: suite) pos' :: hds) ((c, none, ts) :: l)
  | named {x n : Str} {c : Value} {i : Nat} {ts : Suite} {b₀ : Stmt} {suite : List Stmt} {np pos' : Pos} {hds : List ExceptHandler} {l : List (Value × Option Nat × Suite)} (hi : X.N[i]? = some n) (hln : X.env.kindOf n = some .local) (hc : Names X x c)
      (hsu : ∀ (a : Addr) (oe : Obj) (cls : Value) (d : Option Addr) (pn : List (Addr × Obj)), Zc cls d oe → (∃ vs, oe.data = .fields vs) → PSs (X.suite a ((a, oe) :: pn)) (b₀ :: suite) (ts a cls d)) (r : Clauses X hds l) :
      Clauses X (.ExceptHandler (some (.Name x np)) (some n) (b₀ :: suite) pos' :: hds) ((c, some i, ts) :: l)
section
variable {X : Cx} {body : List Stmt} {h₀ : ExceptHandler} {hds : List ExceptHandler} {l : List (Value × Option Nat × Suite)} {pos : Pos} {tb : WX → TS} {Wout : WX}
theorem ps_try_clauses (hs : X.stack = X.env :: X.outer) (hf : X.env.frame = some X.env.locals) (hN : X.N.Nodup) (tk : Takes X Wout)
    (hb : ∀ (W : WX) (pn : List (Addr × Obj)) (xe : Value → Shared → Prop), Takes (X.tr pn xe) W → PassesOwn (model X.prog X.w) X.A X.env xe → PSs (X.tr pn xe) body (tb W))
    (hh : Clauses X (h₀ :: hds) l) : PS X (.Try body (h₀ :: hds) [] [] pos) (fun D σ H => tb (wClauses X.K Wout D l) D σ H) := by
  refine ⟨fun pins s σ H D I h => ?_⟩
  have okX := I.ok
  have fr0 : X.A.frames = some (X.env :: X.outer) := by rw [okX.frames, hs]
  refine wpAny_Try_except ?_
  refine wpAny_mono ((hb (wClauses X.K Wout D l) (X.pn ++ pins) (fun e s1 => wpAny (model X.prog X.w) X.A (noteFrame e X.env) (fun _ s2 => wpAny (model X.prog X.w) X.A (setFlight e none) (fun _ s3 => wpAny (model X.prog X.w) X.A (handleBy e X.env (h₀ :: hds)) (SP X pins D) X.xe s3) X.xe s2) X.xe s1) (fun u s' xx => ?_) PassesOwn.looking).run [] s σ H D (I.toTry _) h) (fun f s1 hsp => ?_) fun e s1 he => he
  · obtain ⟨a, B, sI, pins', σ', H', cls, d, rfl, J', nb, up, sky, na, os, ag, w⟩ := xx
    have J := J'.ofTry okX
    rw [hs] at sky
    show wpAny (model X.prog X.w) X.A (noteFrame (.ref a) X.env) _ _ _
    refine Sky.land Zc.steady fr0 hf sky fun h3 fl3 up3 => ?_
    have J3 : Inv X pins σ' H' { s' with heap := h3 } := J.landed nb fl3.1 (up.trans up3) os ag
    obtain ⟨oe3, vs3, he3, hz3, hd3⟩ := fl3.there
    have nfr : a ∉ frs (X.env :: X.outer) := fun hm => by
      obtain ⟨_, o1, e1, hnf⟩ := fl3.2.2.1.mem hm
      rw [he3] at e1
      cases e1
      exact hnf _ hd3
    have nL : a ≠ X.env.locals := fun q => nfr (List.mem_filterMap.mpr ⟨X.env, List.mem_cons_self, by rw [hf, q]⟩)
    have nF : a ∉ X.fs := fun hm => by
      obtain ⟨e1, h1, q⟩ := List.mem_filterMap.mp hm
      exact nfr (List.mem_filterMap.mpr ⟨e1, List.mem_cons_of_mem _ h1, q⟩)
    have S3 := J3.suite he3 hd3 na nL nF
    have cls3 : PySem.W.Looks (model X.prog X.w) h3 (typeOf (.ref a)) cls := fun A Q E s1 k q => wpAny_typeOf_ref (k _ _ he3) (by rw [hz3.1]; exact q)
    have look : ∀ {x : Str} {c : Value} {np : Pos} (hc : Names X x c) {Q E : Value → Shared → Prop}, Q c { s' with heap := h3 } → wpAny (model X.prog X.w) (X.A.mark (some (.ref a))) (eval (.Name x np) X.env) Q E { s' with heap := h3 } := fun {x c np} hc {Q E} q => by
      obtain ⟨c1, c2, c3 | ⟨c3, c4, c5⟩⟩ := hc
      · exact ld_glob (X := X.suite a ((a, oe3) :: (X.pn ++ pins))) S3 c1 c3 q c2
      · exact ld_blt (X := X.suite a ((a, oe3) :: (X.pn ++ pins))) S3 c1 c3 c4 q c5 c2
    have go : ∀ {hds' : List ExceptHandler} {l' : List (Value × Option Nat × Suite)}, Clauses X hds' l' → wClauses X.K Wout D l' cls d σ' H' → wpAny (model X.prog X.w) X.A (handleBy (.ref a) X.env hds') (SP X pins D) X.xe { s' with heap := h3 } := by
      intro hds' l' hk
      induction hk with
      | nil =>
        intro w
        refine wpAny_handleBy_nil ?_
        obtain ⟨k1, k2, k3, oe, vs, T, oT, ts', he, hz, hd, h1, hr⟩ := id fl3
        unfold PySem.passOn
        refine wpAny_bind (wpAny_field he hd h1 ?_)
        rw [if_neg (show ¬ ((Value.ref T == Value.none) = true) from by simp)]
        have last : wpAny (model X.prog X.w) X.A (setFlight (.ref a) X.env.frame) (fun _ s4 => wpAny (model X.prog X.w) X.A (throw (.ref a) : Sem Flow) (SP X pins D) X.xe s4) X.xe { s' with heap := h3 } := by
          rw [hf]
          refine HandSPX.setFlight_upZ fl3 fun h4 hh4 up4 => wpAny_throw (tk _ _ ?_)
          exact ⟨a, B, sI, pins, σ', H', cls, d, rfl, J, nb, (up.trans up3).trans up4, .inr (.inr (by rw [hs]; exact hh4)), na, os, ag, w⟩
        first
          | exact wpAny_bind (wpAny_pure (wpAny_bind last))
          | exact wpAny_bind last
      | @plain x c ts b₀ suite np pos' hds2 l2 hc hsu r ih =>
        intro w
        obtain ⟨b, hb1, hyes, hno⟩ := w
        refine wpAny_handleBy_cons (codeAny_handlers_test (look hc ((PySem.W.exm_one (M := model X.prog X.w) J3.kIn cls3 hb1).here ?_))) (by intro q; cases q)
        cases b with
        | false => exact ih (hno rfl)
        | true =>
          refine codeAny_handlers_suite (HandSPX.lands_againZ fl3 fun h4 fl4 up4 => ?_)
          have J4 : Inv X pins σ' H' { s' with heap := h4 } := J.landed nb fl4.1 ((up.trans up3).trans up4) os ag
          obtain ⟨oe4, vs4, he4, hz4, hd4⟩ := fl4.there
          refine wpAny_mono ((hsu a oe4 cls d (X.pn ++ pins) hz4 ⟨_, hd4⟩).run [] _ _ H' _ (J4.suite he4 hd4 na nL nF) (hyes rfl a na)) (fun f s6 hsp => ?_) (fun _ _ z => False.elim z)
          cases f with
          | ret u =>
            obtain ⟨v6, σ6, H6, S6, r6, q6⟩ := hsp
            exact ⟨_, _, _, S6.unsuite okX, r6, q6⟩
          | next | brk | cont =>
            obtain ⟨σ6, H6, S6, q6⟩ := hsp
            exact ⟨_, _, S6.unsuite okX, q6⟩
      | @named x n c i ts b₀ suite np pos' hds2 l2 hi hln hc hsu r ih =>
        intro w
        obtain ⟨b, hb1, hyes, hno⟩ := w
        refine wpAny_handleBy_cons (codeAny_handlers_test (look hc ((PySem.W.exm_one (M := model X.prog X.w) J3.kIn cls3 hb1).here ?_))) (by intro q; cases q)
        cases b with
        | false => exact ih (hno rfl)
        | true =>
          refine codeAny_handlers_suite_as (HandSPX.lands_againZ fl3 fun h4 fl4 up4 => ?_)
          have J4 : Inv X pins σ' H' { s' with heap := h4 } := J.landed nb fl4.1 ((up.trans up3).trans up4) os ag
          obtain ⟨oe4, vs4, he4, hz4, hd4⟩ := fl4.there
          refine store_ok (X := X.suite a ((a, oe4) :: (X.pn ++ pins))) (v := .ref a) (J4.suite he4 hd4 na nL nF) hN hi (.inl hln) rfl (fun s5 S5 => ?_) (.inr hln)
          refine wpAny_mono ((hsu a oe4 cls d (X.pn ++ pins) hz4 ⟨_, hd4⟩).run [] s5 _ H' _ S5 (hyes rfl a na)) (fun f s6 hsp => ?_) (fun _ _ z => False.elim z)
          cases f with
          | ret u =>
            obtain ⟨v6, σ6, H6, S6, r6, q6⟩ := hsp
            exact gone_ok (S6.unsuite okX) hN hi hln fun s7 J7 => ⟨_, _, _, J7, r6, q6⟩
          | next | brk | cont =>
            obtain ⟨σ6, H6, S6, q6⟩ := hsp
            exact gone_ok (S6.unsuite okX) hN hi hln fun s7 J7 => ⟨_, _, J7, q6⟩
    exact go hh w
  · cases f with
    | next =>
      obtain ⟨σ', H', J', q⟩ := hsp
      exact wpAny_execs_nil ⟨σ', H', J'.ofTry okX, q⟩
    | ret u =>
      obtain ⟨v, σ', H', J', r, q⟩ := hsp
      exact ⟨v, σ', H', J'.ofTry okX, r, q⟩
    | brk | cont =>
      obtain ⟨σ', H', J', q⟩ := hsp
      exact ⟨σ', H', J'.ofTry okX, q⟩
end
end Vf
set_option Elab.async false
set_option linter.all false
set_option maxRecDepth 100000
set_option maxHeartbeats 4000000
namespace Vf
open PySem L2 PyProof.Rows
open NdefX LamX
inductive Out where
  | fine | unlike | many
  | value (i : Nat)
def spAsk (NT : List NTab) (CV CU CT : Addr) (out : Out) : Sp := fun vs H Q E => vs = [] ∧ TabsN NT H ∧ match out with
  | .fine => ∀ v H', SameT NT H H' → Q v H'
  | .unlike => ∀ H', SameT NT H H' → E (.ref CU) none H'
  | .value i => ∀ d H', RaisedT NT H H' d "place" (.int i) → E (.ref CV) (some d) H'
  | .many => ∀ d H', RaisedT NT H H' d "what" (.str "states") → E (.ref CT) (some d) H'
def outV : Out → List V
  | .fine => []
  | .unlike => [.str "unlike"]
  | .many => [.str "many", .str "states"]
  | .value i => [.str "value", .int i]
def spCaught (P : Program) (w : World) (K : PySem.W.Frag) (mg : Str → Option Value) (base : Heap) (NT : List NTab) (CV CU CT : Addr) : Sp := fun vs H Q _ => ∃ (f : Addr) (S : Hp → Prop) (out : Out), vs = [.ref f] ∧ FV P w K mg base (L2.CX P w) 12 f S (spAsk NT CV CU CT out) ∧ S H ∧ TabsN NT H ∧ ∀ t H', SameT NT H H' → H' t = some (.tup (outV out)) → Q (.ref t) H'
structure TxtEx (K : PySem.W.Frag) (mg : Str → Option Value) (CV CU CT fV fT : Addr) : Prop where
  bv : ErrT K mg "BadValue" "place" CV fV
  tm : ErrT K mg "TooMany" "what" CT fT
  gU : mg "Unlike" = some (.ref CU)
  vv : PySem.W.exmOne K (.ref CV) (.ref CV) = some true
  uv : PySem.W.exmOne K (.ref CU) (.ref CV) = some false
  uu : PySem.W.exmOne K (.ref CU) (.ref CU) = some true
  tv : PySem.W.exmOne K (.ref CT) (.ref CV) = some false
  tu : PySem.W.exmOne K (.ref CT) (.ref CU) = some false
  tt : PySem.W.exmOne K (.ref CT) (.ref CT) = some true
theorem sameT_up {T : List NTab} {cs : Cs} {H H2 : Hp} (hc : HeldC cs H) (hn : ∀ c o, cs.lookup c = some o → H2 c = none) (s : SameT T (hid cs H) H2) : SameT T H (shw cs H2) := by
  refine ⟨fun b o e n => ?_, fun b e => ?_, fun p hp => ?_⟩
  · cases q : cs.lookup b with
    | some y =>
      have := hc b y q
      rw [e] at this
      rw [shw_in q, Option.some.inj this]
    | none => rw [shw_out q]; exact s.ext b o (by rw [hid_out q]; exact e) n
  · cases q : cs.lookup b with
    | some y => rw [shw_in q] at e; cases e
    | none =>
      rw [shw_out q] at e
      have := s.back b e
      rw [hid_out q] at this
      exact this
  · exact (s.tab p hp).ext fun b o e => shw_keep hn e
theorem raisedT_up {T : List NTab} {cs : Cs} {H H2 : Hp} {d : Addr} {f : Str} {v : V} (hc : HeldC cs H) (hn : ∀ c o, cs.lookup c = some o → H2 c = none) (r : RaisedT T (hid cs H) H2 d f v) : RaisedT T H (shw cs H2) d f v := by
  obtain ⟨r0, r1, r2⟩ := r
  have q : cs.lookup d = none := by
    cases q : cs.lookup d with
    | none => rfl
    | some y => rw [hn d y q] at r1; cases r1
  exact ⟨by rw [hid_out q] at r0; exact r0, by rw [shw_out q]; exact r1, sameT_up hc hn r2⟩
theorem ask_hid {NT : List NTab} {CV CU CT : Addr} {out : Out} {cs : Cs} {H : Hp} {vs : List V} {Q : VK} {E : XK} (hd : CellsData cs) (hc : HeldC cs H) (h : spAsk NT CV CU CT out vs H Q E) :
    spAsk NT CV CU CT out vs (hid cs H) (fun v H2 => (∀ c o, cs.lookup c = some o → H2 c = none) → Q v (shw cs H2)) (fun cl d H2 => (∀ c o, cs.lookup c = some o → H2 c = none) → E cl d (shw cs H2)) := by
  obtain ⟨ev, hT, h⟩ := h
  refine ⟨ev, tabs_hid hd hc hT, ?_⟩
  cases out with
  | fine => exact fun v H' s hn => h v _ (sameT_up hc hn s)
  | unlike => exact fun H' s hn => h _ (sameT_up hc hn s)
  | value i => exact fun d H' r hn => h d _ (raisedT_up hc hn r)
  | many => exact fun d H' r hn => h d _ (raisedT_up hc hn r)
section
variable {P : Program} {w : World} {K : PySem.W.Frag} {mg : Str → Option Value} {base : Heap}
abbrev s__law_caught : Stmt := top 38
abbrev N__law_caught : List Str := ["_law_ask", "e"]
abbrev P__law_caught : List Str := ["_law_ask"]
theorem sc__law_caught : FnScope N__law_caught P__law_caught (defScope s__law_caught) := ⟨rfl, rfl, rfl, by decide +kernel, rfl, by decide +kernel, by decide +kernel⟩

theorem ok_caught {NT : List NTab} {f CV CU CT fV fT : Addr} {fd : FuncData} (F : Fun K "_law_caught" "_law_caught" s__law_caught f fd) (T : TxtEx K mg CV CU CT fV fT) : FnOk P w K mg base CX0 13 f fd P__law_caught (spCaught P w K mg base NT CV CU CT) := by
  refine F.ok sc__law_caught (fun vs H Q E h => ?_) (fun cdv A outer s H vs Q E hr h => ?_)
  · obtain ⟨fa, S, out, rfl, _⟩ := h
    rfl
  · obtain ⟨fa, S, out, rfl, FS, hS, hT, k⟩ := h
    refine ⟨_, pss_cons (ps_try_clauses (tb := fun W => tDrop (tCallV0V 0 fa S (spAsk NT CV CU CT out) (WE W))) (Wout := fun _ _ _ _ => False) rfl rfl sc__law_caught.nd L2.takes0
        (fun W pn xe tk _ => pss_one (ps_expr (by exact (pe_callV0V FS (hr.mono (by decide)) (fun σ => passAt tk σ) rfl (Or.inl rfl)))))
        (.named (i := 1) (ts := fun a cls d => tRet (tTup (tCons (tC (.str "value")) (tCons (tXf a cls d CV "place" (tVar 1)) tNil)))) rfl rfl ⟨rfl, by decide, Or.inl T.bv.g⟩ (fun a oe cls d pn hz hf => pss_one (ps_ret (by exact (pe_tup (pa_cons pe_str (pa_cons (pe_xf T.bv.xf T.bv.nf hz hf (pv 1)) pa_nil))))))
          (.plain (ts := fun a cls d => tRet (tTup (tCons (tC (.str "unlike")) tNil))) ⟨rfl, by decide, Or.inl T.gU⟩ (fun a oe cls d pn hz hf => pss_one (ps_ret (by exact (pe_tup (pa_cons pe_str pa_nil)))))
            (.named (i := 1) (ts := fun a cls d => tRet (tTup (tCons (tC (.str "many")) (tCons (tXf a cls d CT "what" (tVar 1)) tNil)))) rfl rfl ⟨rfl, by decide, Or.inl T.tm.g⟩ (fun a oe cls d pn hz hf => pss_one (ps_ret (by exact (pe_tup (pa_cons pe_str (pa_cons (pe_xf T.tm.xf T.tm.nf hz hf (pv 1)) pa_nil)))))) .nil))))
      (pss_one (ps_ret (pe_tup pa_nil))), ?_⟩
    cases out with
    | fine =>
      refine ⟨rfl, hS, rfl, hT, fun v H1 s1 => ?_⟩
      exact ⟨by show 0 ≤ sizeLine; decide, fun t ht => k t _ (s1.trans (SameT.of (same_new ht) s1.tab)) upd_same⟩
    | unlike =>
      refine ⟨rfl, hS, rfl, hT, fun H1 s1 => ?_⟩
      refine ⟨false, T.uv, fun q => Bool.noConfusion q, fun _ => ⟨true, T.uu, fun _ a ha => ?_, fun q => Bool.noConfusion q⟩⟩
      exact ⟨by show 1 ≤ sizeLine; decide, fun t ht => k t _ (s1.trans (SameT.of (same_new ht) s1.tab)) upd_same⟩
    | value i =>
      refine ⟨rfl, hS, rfl, hT, fun d H1 ⟨hd0, hd1, s1⟩ => ?_⟩
      refine ⟨true, T.vv, fun _ a ha => ?_, fun q => Bool.noConfusion q⟩
      exact ⟨_, rfl, rfl, rfl, d, _, V.int i, rfl, hd1, by simp [List.lookup], by show 2 ≤ sizeLine; decide, fun t ht => k t _ (s1.trans (SameT.of (same_new ht) s1.tab)) upd_same⟩
    | many =>
      refine ⟨rfl, hS, rfl, hT, fun d H1 ⟨hd0, hd1, s1⟩ => ?_⟩
      refine ⟨false, T.tv, fun q => Bool.noConfusion q, fun _ => ⟨false, T.tu, fun q => Bool.noConfusion q, fun _ => ⟨true, T.tt, fun _ a ha => ?_, fun q => Bool.noConfusion q⟩⟩⟩
      exact ⟨_, rfl, rfl, rfl, d, _, V.str "states", rfl, hd1, by simp [List.lookup], by show 2 ≤ sizeLine; decide, fun t ht => k t _ (s1.trans (SameT.of (same_new ht) s1.tab)) upd_same⟩
end
end Vf
set_option Elab.async false
set_option linter.all false
set_option maxRecDepth 100000
set_option maxHeartbeats 4000000
namespace Vf
open PySem L2 PyProof.Rows
open NdefX LamX
abbrev s_law : Stmt := top 45
abbrev N_law : List Str := ["_law_script", "_law_pen_here", "_law_turn", "_law_letters_here", "_law_one", "_law_other", "_law_columns", "_law_odd", "_law_at", "_law_a", "_law_b", "_law_first", "_law_fresh", "_law_second", "_law_third", "_law_words", "_law_k", "_law_value", "_law_letter"]
abbrev P_law : List Str := ["_law_script"]
theorem sc_law : FnScope N_law P_law (defScope s_law) := ⟨rfl, rfl, rfl, by decide +kernel, rfl, by decide +kernel, by decide +kernel⟩

abbrev l_law_l0 : Expr := (argN (cmpLeft (ifTest (forBody ((defBody s_law).getD 1 (.Pass ⟨0, 0, 0, 0⟩)) 10))) 0)
abbrev N_law_l0 : List Str := ["_law_a", "_law_b"]
abbrev P_law_l0 : List Str := []
abbrev R_law_l0 : List Str := ["_law_a", "_law_b"]
theorem ns_law_l0 : NScope N_law_l0 P_law_l0 R_law_l0 (lamScope l_law_l0) := nscope_by (by decide +kernel)
theorem nc_law_l0 : cellsB (defScope s_law) (lamScope l_law_l0) = true := by decide +kernel
theorem nr_law_l0 : ∀ y ∈ R_law_l0, (y, NameKind.free) ∈ (lamScope l_law_l0).names := by decide +kernel

abbrev l_law_l1 : Expr := (argN (cmpLeft (ifTest (forBody ((defBody s_law).getD 1 (.Pass ⟨0, 0, 0, 0⟩)) 11))) 0)
abbrev N_law_l1 : List Str := ["_law_a"]
abbrev P_law_l1 : List Str := []
abbrev R_law_l1 : List Str := ["_law_a"]
theorem ns_law_l1 : NScope N_law_l1 P_law_l1 R_law_l1 (lamScope l_law_l1) := nscope_by (by decide +kernel)
theorem nc_law_l1 : cellsB (defScope s_law) (lamScope l_law_l1) = true := by decide +kernel
theorem nr_law_l1 : ∀ y ∈ R_law_l1, (y, NameKind.free) ∈ (lamScope l_law_l1).names := by decide +kernel

abbrev l_law_l2 : Expr := (argN (cmpLeft (ifTest (forBody ((defBody s_law).getD 1 (.Pass ⟨0, 0, 0, 0⟩)) 14))) 0)
abbrev N_law_l2 : List Str := ["_law_a", "_law_fresh", "_law_words"]
abbrev P_law_l2 : List Str := []
abbrev R_law_l2 : List Str := ["_law_a", "_law_fresh", "_law_words"]
theorem ns_law_l2 : NScope N_law_l2 P_law_l2 R_law_l2 (lamScope l_law_l2) := nscope_by (by decide +kernel)
theorem nc_law_l2 : cellsB (defScope s_law) (lamScope l_law_l2) = true := by decide +kernel
theorem nr_law_l2 : ∀ y ∈ R_law_l2, (y, NameKind.free) ∈ (lamScope l_law_l2).names := by decide +kernel

abbrev l_law_l3 : Expr := (argN (cmpLeft (boolN (ifTest (forBody ((defBody s_law).getD 1 (.Pass ⟨0, 0, 0, 0⟩)) 17)) 0)) 0)
abbrev N_law_l3 : List Str := ["_law_first", "_law_second"]
abbrev P_law_l3 : List Str := []
abbrev R_law_l3 : List Str := ["_law_first", "_law_second"]
theorem ns_law_l3 : NScope N_law_l3 P_law_l3 R_law_l3 (lamScope l_law_l3) := nscope_by (by decide +kernel)
theorem nc_law_l3 : cellsB (defScope s_law) (lamScope l_law_l3) = true := by decide +kernel
theorem nr_law_l3 : ∀ y ∈ R_law_l3, (y, NameKind.free) ∈ (lamScope l_law_l3).names := by decide +kernel

abbrev l_law_l4 : Expr := (argN (cmpLeft (ifTest (forBody ((defBody s_law).getD 1 (.Pass ⟨0, 0, 0, 0⟩)) 18))) 0)
abbrev N_law_l4 : List Str := ["_law_first", "_law_third"]
abbrev P_law_l4 : List Str := []
abbrev R_law_l4 : List Str := ["_law_first", "_law_third"]
theorem ns_law_l4 : NScope N_law_l4 P_law_l4 R_law_l4 (lamScope l_law_l4) := nscope_by (by decide +kernel)
theorem nc_law_l4 : cellsB (defScope s_law) (lamScope l_law_l4) = true := by decide +kernel
theorem nr_law_l4 : ∀ y ∈ R_law_l4, (y, NameKind.free) ∈ (lamScope l_law_l4).names := by decide +kernel

/-- what a sum of two codes gives -/
inductive SumOut (z1 z2 : Str) (r1 r2 : List Row) (e1 e2 : List Int) : Out → Prop where
  | unlike (h : z1 ≠ z2) : SumOut z1 z2 r1 r2 e1 e2 .unlike
  | fine (h : z1 = z2) (g1 : GoodS z1.length r1) (g2 : GoodS z1.length r2) (h1 : e1.length = r1.length) (h2 : e2.length = r2.length) (p1 : 0 < r1.length) (p2 : 0 < r2.length) (hl : (turns (sst r1 r2 (TL.tl z1)) (TL.tl z1) [Sum.inl 0, Sum.inl 0] 40).1.length ≤ 40) : SumOut z1 z2 r1 r2 e1 e2 .fine
  | many (h : z1 = z2) (g1 : GoodS z1.length r1) (g2 : GoodS z1.length r2) (h1 : e1.length = r1.length) (h2 : e2.length = r2.length) (p1 : 0 < r1.length) (p2 : 0 < r2.length) (hl : 40 < (turns (sst r1 r2 (TL.tl z1)) (TL.tl z1) [Sum.inl 0, Sum.inl 0] 40).1.length) : SumOut z1 z2 r1 r2 e1 e2 .many
theorem sum_ask {K : PySem.W.Frag} {NT : List NTab} {C CV CU CT : Addr} {z1 z2 : Str} {r1 r2 : List Row} {e1 e2 : List Int} {out : Out} {H : Hp} {Q : VK} {E : XK} (ho : SumOut z1 z2 r1 r2 e1 e2 out)
    (k : spAsk NT CV CU CT out [] H Q E) : 
    (z1 ≠ z2 → ∀ H', Same H H' → E (.ref CU) none H') ∧
    (z1 = z2 → GoodS z1.length r1 ∧ GoodS z1.length r2 ∧ e1.length = r1.length ∧ e2.length = r2.length ∧ 0 < r1.length ∧ 0 < r2.length ∧
      Made K NT C z1 (sst r1 r2 (TL.tl z1)) (sbt r1 r2 (TL.tl z1)) (sen e1 e2) [Sum.inl 0, Sum.inl 0] H Q ∧
      (40 < (turns (sst r1 r2 (TL.tl z1)) (TL.tl z1) [Sum.inl 0, Sum.inl 0] 40).1.length → ∀ d H', RaisedT NT H H' d "what" (.str "states") → E (.ref CT) (some d) H')) := by
  obtain ⟨_, hT, k⟩ := k
  cases ho with
  | unlike h => exact ⟨fun _ H' s => k H' (SameT.of s hT), fun e => absurd e h⟩
  | fine h g1 g2 h1 h2 p1 p2 hl => exact ⟨fun n => absurd h n, fun _ => ⟨g1, g2, h1, h2, p1, p2, fun o H' s _ _ => k _ H' s, fun q => absurd hl (by omega)⟩⟩
  | many h g1 g2 h1 h2 p1 p2 hl => exact ⟨fun n => absurd h n, fun _ => ⟨g1, g2, h1, h2, p1, p2, fun o H' s _ q => absurd q (by omega), fun _ => k⟩⟩
section
variable {P : Program} {w : World} {K : PySem.W.Frag} {mg : Str → Option Value} {base : Heap}
theorem lok_ask0 {NT : List NTab} {fS C CV CU CT : Addr} {fdS : FuncData} {o1 o2 : Addr} {z1 z2 : Str} {r1 r2 : List Row} {e1 e2 : List Int} {out : Out} {fg c' : Addr} {cl : List (Str × Addr)} {q : Str} (msummed : mg "summed" = some (.ref fS)) (ksummed : PySem.W.keepIn K (.ref fS) = true) (Gsummed : FnOk P w K mg base (L2.CX P w) 11 fS fdS P_summed (spSummed K NT C CT CU)) (bsummed : Binds K fdS P_summed [])
    (hz : z1.length ≤ 3) (ho : SumOut z1 z2 r1 r2 e1 e2 out) :
    LOk P w K mg base (L2.CX P w) 12 fg (LF l_law_l0 q cl c') (lamBody l_law_l0) P_law_l0 R_law_l0 (fun ws vs H Q E => ws = [some (.ref o1), some (.ref o2)] ∧ CodeAt K C H o1 z1 r1 e1 ∧ CodeAt K C H o2 z2 r2 e2 ∧ spAsk NT CV CU CT out vs H Q E) := by
  refine lok_of ns_law_l0 (fun pm ctv us hl => match us, hl with | [], _ => rfl) (fun ws vs H Q E h => ?_) (fun A outer s H vs ws Q E hr hl h => ?_)
  · obtain ⟨_, _, _, rfl, _⟩ := h
    rfl
  · obtain ⟨rfl, hC1, hC2, k⟩ := h
    obtain ⟨rfl, hT, _⟩ := id k
    have passL : Passes (L2.CX P w) (ncx (L2.CX P w) P w K mg base N_law_l0 (LF l_law_l0 q cl c') fg A outer s H E) E := passes_call (takes_of rfl rfl rfl rfl) (fun _ _ _ _ h => h)
    refine ⟨_, (pe_call Gsummed (hr.mono (by decide)) (by rfl) msummed ksummed bsummed .nil passL (pa_cons (pv 0) (pa_cons (pv 1) pa_nil))), ?_⟩
    exact ⟨_, rfl, _, rfl, o1, o2, z1, z2, r1, r2, e1, e2, rfl, hC1, hC2, hz, hT, sum_ask ho k⟩
theorem lok_ask3 {NT : List NTab} {fS C CV CU CT : Addr} {fdS : FuncData} {o1 o2 : Addr} {z1 z2 : Str} {r1 r2 : List Row} {e1 e2 : List Int} {out : Out} {fg c' : Addr} {cl : List (Str × Addr)} {q : Str} (msummed : mg "summed" = some (.ref fS)) (ksummed : PySem.W.keepIn K (.ref fS) = true) (Gsummed : FnOk P w K mg base (L2.CX P w) 11 fS fdS P_summed (spSummed K NT C CT CU)) (bsummed : Binds K fdS P_summed [])
    (hz : z1.length ≤ 3) (ho : SumOut z1 z2 r1 r2 e1 e2 out) :
    LOk P w K mg base (L2.CX P w) 12 fg (LF l_law_l3 q cl c') (lamBody l_law_l3) P_law_l3 R_law_l3 (fun ws vs H Q E => ws = [some (.ref o1), some (.ref o2)] ∧ CodeAt K C H o1 z1 r1 e1 ∧ CodeAt K C H o2 z2 r2 e2 ∧ spAsk NT CV CU CT out vs H Q E) := by
  refine lok_of ns_law_l3 (fun pm ctv us hl => match us, hl with | [], _ => rfl) (fun ws vs H Q E h => ?_) (fun A outer s H vs ws Q E hr hl h => ?_)
  · obtain ⟨_, _, _, rfl, _⟩ := h
    rfl
  · obtain ⟨rfl, hC1, hC2, k⟩ := h
    obtain ⟨rfl, hT, _⟩ := id k
    have passL : Passes (L2.CX P w) (ncx (L2.CX P w) P w K mg base N_law_l3 (LF l_law_l3 q cl c') fg A outer s H E) E := passes_call (takes_of rfl rfl rfl rfl) (fun _ _ _ _ h => h)
    refine ⟨_, (pe_call Gsummed (hr.mono (by decide)) (by rfl) msummed ksummed bsummed .nil passL (pa_cons (pv 0) (pa_cons (pv 1) pa_nil))), ?_⟩
    exact ⟨_, rfl, _, rfl, o1, o2, z1, z2, r1, r2, e1, e2, rfl, hC1, hC2, hz, hT, sum_ask ho k⟩
theorem lok_ask4 {NT : List NTab} {fS C CV CU CT : Addr} {fdS : FuncData} {o1 o2 : Addr} {z1 z2 : Str} {r1 r2 : List Row} {e1 e2 : List Int} {out : Out} {fg c' : Addr} {cl : List (Str × Addr)} {q : Str} (msummed : mg "summed" = some (.ref fS)) (ksummed : PySem.W.keepIn K (.ref fS) = true) (Gsummed : FnOk P w K mg base (L2.CX P w) 11 fS fdS P_summed (spSummed K NT C CT CU)) (bsummed : Binds K fdS P_summed [])
    (hz : z1.length ≤ 3) (ho : SumOut z1 z2 r1 r2 e1 e2 out) :
    LOk P w K mg base (L2.CX P w) 12 fg (LF l_law_l4 q cl c') (lamBody l_law_l4) P_law_l4 R_law_l4 (fun ws vs H Q E => ws = [some (.ref o1), some (.ref o2)] ∧ CodeAt K C H o1 z1 r1 e1 ∧ CodeAt K C H o2 z2 r2 e2 ∧ spAsk NT CV CU CT out vs H Q E) := by
  refine lok_of ns_law_l4 (fun pm ctv us hl => match us, hl with | [], _ => rfl) (fun ws vs H Q E h => ?_) (fun A outer s H vs ws Q E hr hl h => ?_)
  · obtain ⟨_, _, _, rfl, _⟩ := h
    rfl
  · obtain ⟨rfl, hC1, hC2, k⟩ := h
    obtain ⟨rfl, hT, _⟩ := id k
    have passL : Passes (L2.CX P w) (ncx (L2.CX P w) P w K mg base N_law_l4 (LF l_law_l4 q cl c') fg A outer s H E) E := passes_call (takes_of rfl rfl rfl rfl) (fun _ _ _ _ h => h)
    refine ⟨_, (pe_call Gsummed (hr.mono (by decide)) (by rfl) msummed ksummed bsummed .nil passL (pa_cons (pv 0) (pa_cons (pv 1) pa_nil))), ?_⟩
    exact ⟨_, rfl, _, rfl, o1, o2, z1, z2, r1, r2, e1, e2, rfl, hC1, hC2, hz, hT, sum_ask ho k⟩
theorem lok_ask1 {NT : List NTab} {fS C CV CU CT : Addr} {fdS : FuncData} {o1 : Addr} {z1 : Str} {r1 : List Row} {e1 : List Int} {out : Out} {fg c' : Addr} {cl : List (Str × Addr)} {q : Str} (msummed : mg "summed" = some (.ref fS)) (ksummed : PySem.W.keepIn K (.ref fS) = true) (Gsummed : FnOk P w K mg base (L2.CX P w) 11 fS fdS P_summed (spSummed K NT C CT CU)) (bsummed : Binds K fdS P_summed [])
    (hz : z1.length ≤ 3) (ho : SumOut z1 z1 r1 r1 e1 e1 out) :
    LOk P w K mg base (L2.CX P w) 12 fg (LF l_law_l1 q cl c') (lamBody l_law_l1) P_law_l1 R_law_l1 (fun ws vs H Q E => ws = [some (.ref o1)] ∧ CodeAt K C H o1 z1 r1 e1 ∧ spAsk NT CV CU CT out vs H Q E) := by
  refine lok_of ns_law_l1 (fun pm ctv us hl => match us, hl with | [], _ => rfl) (fun ws vs H Q E h => ?_) (fun A outer s H vs ws Q E hr hl h => ?_)
  · obtain ⟨_, _, rfl, _⟩ := h
    rfl
  · obtain ⟨rfl, hC1, k⟩ := h
    obtain ⟨rfl, hT, _⟩ := id k
    have passL : Passes (L2.CX P w) (ncx (L2.CX P w) P w K mg base N_law_l1 (LF l_law_l1 q cl c') fg A outer s H E) E := passes_call (takes_of rfl rfl rfl rfl) (fun _ _ _ _ h => h)
    refine ⟨_, (pe_call Gsummed (hr.mono (by decide)) (by rfl) msummed ksummed bsummed .nil passL (pa_cons (pv 0) (pa_cons (pv 0) pa_nil))), ?_⟩
    exact ⟨_, rfl, _, rfl, o1, o1, z1, z1, r1, r1, e1, e1, rfl, hC1, hC1, hz, hT, sum_ask ho k⟩
theorem lok_ask2 {NT : List NTab} {fS C CV CU CT : Addr} {fdS : FuncData} {o d : Addr} {z0 z : Str} {rs : List Row} {es : List Int} {kvs : List (Key × V)} {wd : Nat → Str} {i c : Nat} {fg c' : Addr} {cl : List (Str × Addr)} {q : Str} (mtranslated : mg "translated" = some (.ref fS)) (ktranslated : PySem.W.keepIn K (.ref fS) = true) (Gtranslated : FnOk P w K mg base (L2.CX P w) 11 fS fdS P_translated (spTrans K NT C CV)) (btranslated : Binds K fdS P_translated [])
    (hg : Good z0.length rs es) (h40 : rs.length ≤ 40) (hz0 : z0.length ≤ 26) (hz : z.length ≤ 3) (hk : ∀ c ∈ TL.tl z, valV kvs (Sum.inr (sg c)) = some (.str (wd c))) (hi : (TL.tl z)[i]? = some c) (hbad : ¬ ∀ x ∈ TL.tl (wd c), x ∈ TL.tl z0) (hold : ∀ (j c' : Nat), j < i → (TL.tl z)[j]? = some c' → ∀ x ∈ TL.tl (wd c'), x ∈ TL.tl z0) (huniq : ∀ (j c' : Nat), (TL.tl z)[j]? = some c' → (¬ ∀ x ∈ TL.tl (wd c'), x ∈ TL.tl z0) → (∀ (l c'' : Nat), l < j → (TL.tl z)[l]? = some c'' → ∀ x ∈ TL.tl (wd c''), x ∈ TL.tl z0) → j = i) :
    LOk P w K mg base (L2.CX P w) 12 fg (LF l_law_l2 q cl c') (lamBody l_law_l2) P_law_l2 R_law_l2 (fun ws vs H Q E => ws = [some (.ref o), some (.str z), some (.ref d)] ∧ CodeAt K C H o z0 rs es ∧ H d = some (.dK kvs) ∧ spAsk NT CV CU CT (.value i) vs H Q E) := by
  refine lok_of ns_law_l2 (fun pm ctv us hl => match us, hl with | [], _ => rfl) (fun ws vs H Q E h => ?_) (fun A outer s H vs ws Q E hr hl h => ?_)
  · obtain ⟨_, _, _, rfl, _⟩ := h
    rfl
  · obtain ⟨rfl, hC1, hd, k⟩ := h
    obtain ⟨rfl, hT, k⟩ := k
    have passL : Passes (L2.CX P w) (ncx (L2.CX P w) P w K mg base N_law_l2 (LF l_law_l2 q cl c') fg A outer s H E) E := passes_call (takes_of rfl rfl rfl rfl) (fun _ _ _ _ h => h)
    refine ⟨_, (pe_call Gtranslated (hr.mono (by decide)) (by rfl) mtranslated ktranslated btranslated .nil passL (pa_cons (pv 1) (pa_cons (pv 2) (pa_cons (pv 0) pa_nil)))), ?_⟩
    refine ⟨_, rfl, _, rfl, _, rfl, z, d, o, z0, rs, es, kvs, wd, rfl, hC1, hg.s, hg.len, hg.pos, h40, hz0, hz, hd, hk, hT, fun hw => absurd (hw c (List.mem_of_getElem? hi)) hbad, fun j c' hj hb hp d' H' r => ?_⟩
    obtain rfl := huniq j c' hj hb hp
    exact k d' H' ⟨r.1, r.2.1, SameT.of r.2.2 hT⟩
end
end Vf
set_option Elab.async false
set_option linter.all false
set_option maxRecDepth 100000
set_option maxHeartbeats 4000000
namespace Vf
open PySem L2 PyProof.Rows
open NdefX LamX
abbrev Q_law : Str := (envOfC "law" (defScope s_law) 0 0 .none).qual
theorem tabsN_kp {T : List NTab} {p : Addr} {H H' : Hp} {kvs : List (Key × V)} (t : TabsN T H) (k : Kp p H H') (hp : H p = some (.dK kvs)) : TabsN T H' := fun x hx => by
  obtain ⟨ps, h1, h2, h3⟩ := t x hx
  refine ⟨ps, k _ _ h1 (ne_of h1 hp (by intro z; cases z)), h2, fun pos cv hc => ?_⟩
  obtain ⟨c, e1, e2⟩ := h3 pos cv hc
  exact ⟨c, e1, k _ _ e2 (ne_of e2 hp (by intro z; cases z))⟩
theorem Pen.sameT {T : List NTab} {H H' : Hp} {p c : Addr} {n : Nat} (P : Pen H p c n) (s : SameT T H H') : Pen H' p c n := by
  obtain ⟨a, l, cs, ⟨q1, q2, q3⟩, r⟩ := P
  exact ⟨a, l, cs, ⟨s.ext _ _ q1 (fun _ z => nomatch z), s.ext _ _ q2 (fun _ z => nomatch z), q3⟩, r⟩
theorem CodeAt.kp {K : PySem.W.Frag} {C o p : Addr} {H H' : Hp} {z : Str} {rs : List Row} {es : List Int} {kvs : List (Key × V)} (c : CodeAt K C H o z rs es) (k : Kp p H H') (hp : H p = some (.dK kvs)) : CodeAt K C H' o z rs es := by
  obtain ⟨dx, R, E, h1, h2, h3⟩ := c
  exact ⟨dx, R, E, k _ _ h1 (ne_of h1 hp (by intro z; cases z)), h2.mv (Kl.kp k hp), h3.mv (Kl.kp k hp)⟩
def abc : List Nat := TL.tl (Str.ofString "abcdefghij")
theorem abc_more {z : List Nat} (h : z.length ≤ 3) : 0 < (abc.filter (fun x => decide (x ∉ z))).length := by
  cases e : abc.filter (fun x => decide (x ∉ z)) with
  | cons a r => exact Nat.succ_pos _
  | nil =>
    have hs : ∀ x ∈ abc, x ∈ z := fun x hx => by
      by_cases q : x ∈ z
      · exact q
      · have : x ∈ abc.filter (fun x => decide (x ∉ z)) := List.mem_filter.mpr ⟨hx, by simpa using q⟩
        rw [e] at this
        exact nomatch this
    have := nodup_le (by decide +kernel : abc.Nodup) hs
    have h11 : abc.length = 10 := by decide +kernel
    omega
theorem valV_merge_P {P : V → Prop} {k : Key} : ∀ {more kvs : List (Key × V)}, (∀ p ∈ more, P p.2) → (∀ v, valV kvs k = some v → P v) → (k ∈ more.map Prod.fst ∨ ∃ v, valV kvs k = some v) → ∃ v, P v ∧ valV (mergeK kvs more) k = some v := by
  intro more
  induction more with
  | nil =>
    intro kvs _ h2 h3
    rcases h3 with h | ⟨v, hv⟩
    · exact nomatch h
    · exact ⟨v, h2 v hv, hv⟩
  | cons p r ih =>
    intro kvs h1 h2 h3
    refine ih (kvs := putK kvs p.1 p.2) (fun q hq => h1 q (List.mem_cons_of_mem _ hq)) (fun v hv => ?_) ?_
    · rw [valV_put] at hv
      split at hv
      · rw [← Option.some.inj hv]; exact h1 p List.mem_cons_self
      · exact h2 v hv
    · by_cases e : k = p.1
      · exact .inr ⟨p.2, by rw [valV_put, if_pos e]⟩
      · rcases h3 with h | ⟨v, hv⟩
        · rcases List.mem_cons.mp h with q | q
          · exact absurd q e
          · exact .inl q
        · exact .inr ⟨v, by rw [valV_put, if_neg e]; exact hv⟩
def strOf (kvs : List (Key × V)) (k : Key) : Str := match valV kvs k with
  | some (.str y) => y
  | _ => Str.empty
/-- a word of values of z, of at most five -/
def WordOf (z : Str) (v : V) : Prop := ∃ y : Str, v = .str y ∧ y.length ≤ 5 ∧ ∀ x ∈ TL.tl y, x ∈ TL.tl z
theorem strOf_merge {z : Str} {more : List (Key × V)} {k : Key} (h1 : ∀ p ∈ more, WordOf z p.2) (h : k ∈ more.map Prod.fst) : valV (mergeK [] more) k = some (.str (strOf (mergeK [] more) k)) ∧ (strOf (mergeK [] more) k).length ≤ 5 ∧ ∀ x ∈ TL.tl (strOf (mergeK [] more) k), x ∈ TL.tl z := by
  obtain ⟨v, ⟨y, rfl, h5, hz⟩, e⟩ := valV_merge_P (P := WordOf z) (kvs := []) h1 (fun v hv => nomatch hv) (.inl h)
  have : strOf (mergeK [] more) k = y := by unfold strOf; rw [e]
  rw [this]
  exact ⟨e, h5, hz⟩
/-- a dict's pairs on the way: words -/
structure PrW (z : Str) (p c D : Addr) (H4 H5 : Hp) (n : Nat) (ks : List Key) (ps : List Addr) (kvs : List (Key × V)) : Prop where
  lst : H5 D = some (.lst (ps.map V.ref))
  at_ : Paired (fun a (kv : Key × V) => H5 a = some (.tup [kV kv.1, kv.2])) ps kvs
  key : kvs.map Prod.fst = ks
  int : ∀ q ∈ kvs, WordOf z q.2
  pen : Pen H5 p c (n + 300 * ks.length)
  kp : Kp p H4 H5
theorem PrW.step {z : Str} {p c D q : Addr} {H4 H5 H6 : Hp} {n : Nat} {ks : List Key} {ps : List Addr} {kvs : List (Key × V)} (I : PrW z p c D H4 H5 n ks ps kvs) (hD : H4 D = none) (nD : D ≠ p ∧ D ≠ c) {k : Key} {y : Str} (hy : WordOf z (.str y)) (hp : Pen H6 p c (n + 300 * ks.length + 300)) (k6 : Kp p H5 H6) (hq : H6 q = none) :
    (L2.upd H6 q (.tup [kV k, .str y])) D = some (.lst (ps.map V.ref)) ∧ PrW z p c D H4 (L2.upd (L2.upd H6 q (.tup [kV k, .str y])) D (.lst (ps.map V.ref ++ [.ref q]))) n (ks ++ [k]) (ps ++ [q]) (kvs ++ [(k, .str y)]) := by
  have hD6 := k6 _ _ I.lst nD.1
  obtain ⟨kvp, hp5⟩ := I.pen.dk
  have nqD : q ≠ D := (ne_of_none hD6 hq).symm
  refine ⟨by rw [upd_ne nqD.symm]; exact hD6, by rw [upd_same, List.map_append]; rfl, Paired.snoc (I.at_.mono fun a kv h => ?_) ?_, by rw [List.map_append, I.key]; rfl, fun x hx => ?_, ?_, ?_⟩
  · have h : H5 a = some (.tup [kV kv.1, kv.2]) := h
    have h6 := k6 _ _ h (ne_of h hp5 (fun z => nomatch z))
    show L2.upd _ D _ a = _
    rw [upd_ne (ne_of h I.lst (fun z => nomatch z)), upd_ne (ne_of_none h6 hq)]
    exact h6
  · show L2.upd _ D _ q = _
    rw [upd_ne nqD, upd_same]
  · rcases List.mem_append.mp hx with h | h
    · exact I.int x h
    · rw [List.mem_singleton.mp h]; exact hy
  · rw [List.length_append, List.length_singleton]
    exact ((hp.same (same_new hq)).put nD.1 nD.2).mono (by omega)
  · exact ((I.kp.trans k6).trans (Kp.of (same_new hq))).put hD
theorem PrW.start {z : Str} {p c D : Addr} {H4 : Hp} {n : Nat} (hp : Pen H4 p c n) (hD : H4 D = none) : PrW z p c D H4 (L2.upd H4 D (.lst [])) n [] [] [] :=
  ⟨upd_same, .nil, rfl, (fun q hq => nomatch hq), (hp.same (same_new hD)).mono (by omega), Kp.of (same_new hD)⟩
structure TxtZ7 (K : PySem.W.Frag) (mg : Str → Option Value) (fPen fLe fCo fCn fSR fFR fWR fMa fCa fWh fSu fTr : Addr) : Prop where
  m_law_pen : mg "_law_pen" = some (.ref fPen)
  k_law_pen : PySem.W.keepIn K (.ref fPen) = true
  m_law_letters : mg "_law_letters" = some (.ref fLe)
  k_law_letters : PySem.W.keepIn K (.ref fLe) = true
  m_law_code : mg "_law_code" = some (.ref fCo)
  k_law_code : PySem.W.keepIn K (.ref fCo) = true
  m_law_column : mg "_law_column" = some (.ref fCn)
  k_law_column : PySem.W.keepIn K (.ref fCn) = true
  m_law_is_sum_right : mg "_law_is_sum_right" = some (.ref fSR)
  k_law_is_sum_right : PySem.W.keepIn K (.ref fSR) = true
  m_law_is_factor_right : mg "_law_is_factor_right" = some (.ref fFR)
  k_law_is_factor_right : PySem.W.keepIn K (.ref fFR) = true
  m_law_are_words_right : mg "_law_are_words_right" = some (.ref fWR)
  k_law_are_words_right : PySem.W.keepIn K (.ref fWR) = true
  m_law_made_code : mg "_law_made_code" = some (.ref fMa)
  k_law_made_code : PySem.W.keepIn K (.ref fMa) = true
  m_law_caught : mg "_law_caught" = some (.ref fCa)
  k_law_caught : PySem.W.keepIn K (.ref fCa) = true
  m_law_wheel : mg "_law_wheel" = some (.ref fWh)
  k_law_wheel : PySem.W.keepIn K (.ref fWh) = true
  msummed : mg "summed" = some (.ref fSu)
  ksummed : PySem.W.keepIn K (.ref fSu) = true
  mtranslated : mg "translated" = some (.ref fTr)
  ktranslated : PySem.W.keepIn K (.ref fTr) = true
  min : mg "min" = none
  dict : mg "dict" = none
structure TxtAll (K : PySem.W.Frag) (mg : Str → Option Value) (fD fP fB fPen fLe fCo fCn fSR fFR fWR fMa fCa fWh fSu fTr : Addr) : Prop extends TxtB K mg fD fP fB, TxtZ7 K mg fPen fLe fCo fCn fSR fFR fWR fMa fCa fWh fSu fTr
def outD : Out → PyData
  | .fine => .tuple []
  | .unlike => .tuple [.str "unlike"]
  | .many => .tuple [.str "many", .str "states"]
  | .value i => .tuple [.str "value", .int i]
theorem dp_out {K : PySem.W.Frag} {H : Hp} {t : Addr} {out : Out} (h : H t = some (.tup (outV out))) : Dp K H (.ref t) (outD out) := by
  cases out with
  | fine => exact .tup (SqT.of h) .nil
  | unlike => exact .tup (SqT.of h) (.cons (.str _) .nil)
  | many => exact .tup (SqT.of h) (.cons (.str _) (.cons (.str _) .nil))
  | value i => exact .tup (SqT.of h) (.cons (.str _) (.cons (.int _) .nil))
theorem shaped_out (out : Out) : SeqAt.shaped (outD out) = true := by
  have h1 : PyData.strOk (Str.ofString "value") = true := by decide +kernel
  have h2 : PyData.strOk (Str.ofString "unlike") = true := by decide +kernel
  have h3 : PyData.strOk (Str.ofString "many") = true := by decide +kernel
  have h4 : PyData.strOk (Str.ofString "states") = true := by decide +kernel
  cases out <;> simp [outD, SeqAt.shaped, PyData.canLay0, PyData.canLayAll0, PyData.depth, PyData.depthAll, h1, h2, h3, h4]
theorem eqv_out (out : Out) : (!PyData.eqv (outD out) (outD out)) = false := by
  cases out <;> simp [outD, PyData.eqv, PyData.eqvAll]
theorem not_left {K : PySem.W.Frag} {out : Out} {H : Hp} {t t2 : Addr} {R : V → Hp → Prop} (h1 : H t = some (.tup (outV out))) (h2 : H t2 = none) (k : R (.bl false) (L2.upd H t2 (.tup (outV out)))) : rNeD K (.ref t) (.ref t2) (L2.upd H t2 (.tup (outV out))) R :=
  ⟨outD out, outD out, dp_out (same_new h2 _ _ h1), dp_out upd_same, shaped_out _, shaped_out _, by rw [eqv_out]; exact k⟩
theorem dp_one {K : PySem.W.Frag} {H : Hp} {z : Str} {a1 a2 a3 a4 a5 : Addr} (e1 : H a1 = some (.tup [.int 0, .int 1])) (e2 : H a2 = some (.lst [.ref a1])) (e3 : H a3 = some (.lst [.ref a2])) (e4 : H a4 = some (.lst [.int 0])) (e5 : H a5 = some (.tup [.str z, .ref a3, .ref a4])) : Dp K H (.ref a5) (codeD z [[(0, 1)]] [0]) :=
  .tup (SqT.of e5) (.cons (.str _) (.cons (.lst (SqL.of e3) (.cons (.lst (SqL.of e2) (.cons (.tup (SqT.of e1) (.cons (.int _) (.cons (.int _) .nil))) .nil)) .nil)) (.cons (.lst (SqL.of e4) (.cons (.int _) .nil)) .nil)))
theorem good_one : Good 1 [[(0, 1)]] [0] := by
  refine ⟨rfl, by decide, fun r hr => ?_, fun e he => ?_⟩
  · rw [List.mem_singleton.mp hr]
    refine ⟨rfl, fun gb hg => ?_⟩
    rw [List.mem_singleton.mp hg]
    exact ⟨by decide, by decide, by decide, by decide⟩
  · rw [List.mem_singleton.mp he]
    exact ⟨by decide, by decide⟩
theorem merge_len : ∀ (more kvs : List (Key × V)), (mergeK kvs more).length ≤ kvs.length + more.length
  | [], kvs => Nat.le_refl _
  | p :: r, kvs => by
    have h1 := merge_len r (putK kvs p.1 p.2)
    have h2 : (putK kvs p.1 p.2).length ≤ kvs.length + 1 := length_putK _ _ _
    show (mergeK (putK kvs p.1 p.2) r).length ≤ kvs.length + (r.length + 1)
    omega
theorem sg_eq {x y : Nat} (h : (Sum.inr (sg x) : Key) = Sum.inr (sg y)) : x = y := sg_inj (Sum.inr.inj h)
theorem nodup_at {L : List Nat} (h : L.Pairwise (· < ·)) {i j x : Nat} (hi : L[i]? = some x) (hj : L[j]? = some x) : i = j := by
  obtain ⟨h1, e1⟩ := List.getElem?_eq_some_iff.mp hi
  obtain ⟨h2, e2⟩ := List.getElem?_eq_some_iff.mp hj
  have hp := List.pairwise_iff_getElem.mp h
  rcases Nat.lt_trichotomy i j with q | q | q
  · have := hp i j h1 h2 q; omega
  · exact q
  · have := hp j i h2 h1 q; omega
/-- one word exchanged for one with a strange letter -/
theorem words_bad {kS : List (Key × V)} {zf z w : Str} {cg cc gn : Nat} {wd : Nat → Str} (hp : (TL.tl zf).Pairwise (· < ·)) (hg : (TL.tl zf)[gn]? = some cg) (hwd : ∀ x ∈ TL.tl zf, valV kS (Sum.inr (sg x)) = some (.str (wd x)) ∧ ∀ u ∈ TL.tl (wd x), u ∈ TL.tl z) (hc : cc ∈ TL.tl w) (hz : cc ∉ TL.tl z) :
    (∀ x ∈ TL.tl zf, valV (putK kS (Sum.inr (sg cg)) (.str w)) (Sum.inr (sg x)) = some (.str (if x = cg then w else wd x))) ∧ (¬ ∀ x ∈ TL.tl (if cg = cg then w else wd cg), x ∈ TL.tl z) ∧
    (∀ (j c' : Nat), j < gn → (TL.tl zf)[j]? = some c' → ∀ x ∈ TL.tl (if c' = cg then w else wd c'), x ∈ TL.tl z) ∧
    (∀ (j c' : Nat), (TL.tl zf)[j]? = some c' → (¬ ∀ x ∈ TL.tl (if c' = cg then w else wd c'), x ∈ TL.tl z) → j = gn) := by
  refine ⟨fun x hx => ?_, fun h => hz (h cc (by rw [if_pos rfl]; exact hc)), fun j c' hj hc' => ?_, fun j c' hc' hb => ?_⟩
  · rw [valV_put]
    by_cases e : x = cg
    · rw [if_pos (by rw [e]), if_pos e]
    · rw [if_neg (fun q => e (sg_eq q)), if_neg e]
      exact (hwd x hx).1
  · have e : c' ≠ cg := fun e => by
      subst e
      have := nodup_at hp hc' hg
      omega
    rw [if_neg e]
    exact (hwd c' (List.mem_of_getElem? hc')).2
  · by_cases e : c' = cg
    · subst e
      exact nodup_at hp hc' hg
    · rw [if_neg e] at hb
      exact absurd (hwd c' (List.mem_of_getElem? hc')).2 hb
def spLaw (K : PySem.W.Frag) (NT : List NTab) : Sp := fun vs H Q _ => ∃ (a : Addr) (ns : List Int), vs = [.ref a] ∧ SqL K H a (ns.map V.int) ∧ ns.length ≤ 63 ∧ TabsN NT H ∧ ∀ H', Q (.bl true) H'
section
variable {P : Program} {w : World} {K : PySem.W.Frag} {mg : Str → Option Value} {base : Heap}
theorem ok_law {NT : List NTab} {f fD fP fB fPen fLe fCo fCn fSR fFR fWR fMa fCa fWh fSu fTr fLn C CV CU CT cL pL : Addr} {fd fdD fdP fdB fdPen fdLe fdCo fdCn fdSR fdFR fdWR fdMa fdCa fdWh fdSu fdTr fdLn : FuncData} (F : FunC K "law" "law" s_law f fd cL) (T1 : TxtN2 base mg NT cL pL (fun _ _ => Q_law ++ "<lambda>")) (T : TxtAll K mg fD fP fB fPen fLe fCo fCn fSR fFR fWR fMa fCa fWh fSu fTr)
    (FD : Fun K "_law_draw" "_law_draw" s__law_draw fD fdD) (b_law_draw : Binds K fdD P__law_draw []) (FP : Fun K "_law_pick" "_law_pick" s__law_pick fP fdP) (b_law_pick : Binds K fdP P__law_pick []) (FB : Fun K "_law_bits" "_law_bits" s__law_bits fB fdB) (b_law_bits : Binds K fdB P__law_bits [])
    (FPen : Fun K "_law_pen" "_law_pen" s__law_pen fPen fdPen) (b_law_pen : Binds K fdPen P__law_pen []) (FLe : Fun K "_law_letters" "_law_letters" s__law_letters fLe fdLe) (b_law_letters : Binds K fdLe P__law_letters [])
    (FCo : Fun K "_law_code" "_law_code" s__law_code fCo fdCo) (b_law_code : Binds K fdCo P__law_code []) (FCn : Fun K "_law_column" "_law_column" s__law_column fCn fdCn) (b_law_column : Binds K fdCn P__law_column [])
    (G_law_is_sum_right : FnOk P w K mg base (L2.CX P w) 12 fSR fdSR P__law_is_sum_right (spSumR K NT)) (b_law_is_sum_right : Binds K fdSR P__law_is_sum_right [])
    (G_law_is_factor_right : FnOk P w K mg base (L2.CX P w) 12 fFR fdFR P__law_is_factor_right (spFactor K NT)) (b_law_is_factor_right : Binds K fdFR P__law_is_factor_right [])
    (G_law_are_words_right : FnOk P w K mg base (L2.CX P w) 12 fWR fdWR P__law_are_words_right (spWordsR K NT)) (b_law_are_words_right : Binds K fdWR P__law_are_words_right [])
    (G_law_made_code : FnOk P w K mg base (L2.CX P w) 6 fMa fdMa P__law_made_code (spMadeC K C)) (b_law_made_code : Binds K fdMa P__law_made_code [])
    (G_law_caught : FnOk P w K mg base CX0 13 fCa fdCa P__law_caught (spCaught P w K mg base NT CV CU CT)) (b_law_caught : Binds K fdCa P__law_caught [])
    (FWh : Fun K "_law_wheel" "_law_wheel" s__law_wheel fWh fdWh) (b_law_wheel : Binds K fdWh P__law_wheel [])
    (Gsummed : FnOk P w K mg base (L2.CX P w) 11 fSu fdSu P_summed (spSummed K NT C CT CU)) (bsummed : Binds K fdSu P_summed [])
    (Gtranslated : FnOk P w K mg base (L2.CX P w) 11 fTr fdTr P_translated (spTrans K NT C CV)) (btranslated : Binds K fdTr P_translated [])
    (TL' : TxtLn K C fLn) (GLn : FnOk P w K mg base CX0 1 fLn fdLn P_Code___len__ (spLn K C)) (bLn : Binds K fdLn P_Code___len__ []) : FnOk P w K mg base (L2.CX P w) 14 f fd P_law (spLaw K NT) := by
  have G_law_pen : FnOk P w K mg base CX0 1 fPen fdPen P__law_pen (spPen K) := ok_pen FPen T.toTxtA
  have G_law_draw : FnOk P w K mg base CX0 1 fD fdD P__law_draw spDraw := ok_draw FD T.toTxtA
  have G_law_pick : FnOk P w K mg base CX0 2 fP fdP P__law_pick (spPickL K) := ok_pickL FP T.toTxtD FD b_law_draw
  have G_law_letters : FnOk P w K mg base CX0 2 fLe fdLe P__law_letters spLetters := ok_letters FLe T.toTxtD FD b_law_draw
  have G_law_bits : FnOk P w K mg base CX0 3 fB fdB P__law_bits spBits := ok_bits FB T.toTxtP FD b_law_draw FP b_law_pick
  have G_law_code : FnOk P w K mg base CX0 4 fCo fdCo P__law_code (spCode K) := ok_code FCo T.toTxtB FD b_law_draw FP b_law_pick FB b_law_bits
  have G_law_column : FnOk P w K mg base CX0 3 fCn fdCn P__law_column spCol := ok_col FCn T.toTxtP FD b_law_draw FP b_law_pick
  have G_law_wheel : FnOk P w K mg base CX0 1 fWh fdWh P__law_wheel (spWheel K) := ok_wheel FWh T.toTxtA
  refine F.okX sc_law (fun vs H Q E h => ?_) (fun A outer s H vs Q E hr h => ?_)
  · obtain ⟨a, ns, rfl, _⟩ := h
    rfl
  · obtain ⟨a, ns, rfl, hS, hlen, hT, k⟩ := h
    have hu := hu_of hr
    have passL : Passes (L2.CX P w) (cxOf (L2.CX P w) P w K mg base N_law "law" (defScope s_law) f (.ref cL) A outer s H E) E := passes_call (takes_of rfl rfl rfl rfl) (fun _ _ _ _ h => h)
    refine ⟨_, (pss_cons (ps_set (i := 1) sc_law.nd rfl (Or.inr rfl) (pe_call G_law_pen (hr.mono (by decide)) (by rfl) T.m_law_pen T.k_law_pen b_law_pen .nil pass0 (pa_cons (pv 0) pa_nil)))
      (pss_cons (ps_for (passes_of rfl) rfl (pi_range1 (by rfl) T.range (pa_cons (pe_op op_add pe_int (pe_callB (call_min2 rfl) (by rfl) T.min boot_min (pa_cons pe_int (pa_cons (pe_callB call_len (by rfl) T.len PySem.boot_len (pa_cons (pv 0) pa_nil)) pa_nil)))) pa_nil)) (pg_name (i := 2) sc_law.nd rfl (Or.inl rfl)) (pss_cons (ps_set (i := 3) sc_law.nd rfl (Or.inr rfl) (pe_call G_law_letters (hr.mono (by decide)) (by rfl) T.m_law_letters T.k_law_letters b_law_letters .nil pass0 (pa_cons (pv 1) (pa_cons (pe_op op_add pe_int (pe_call G_law_draw (hr.mono (by decide)) (by rfl) T.m_law_draw T.k_law_draw b_law_draw .nil pass0 (pa_cons (pv 1) (pa_cons pe_int pa_nil)))) pa_nil))))
      (pss_cons (ps_par (i := 4) (j := 5) (by rfl) sc_law.nd rfl rfl (by decide) rfl rfl (pa_cons (pe_call G_law_code (hr.mono (by decide)) (by rfl) T.m_law_code T.k_law_code b_law_code .nil pass0 (pa_cons (pv 1) (pa_cons (pv 3) (pa_cons pe_int pa_nil)))) (pa_cons (pe_call G_law_code (hr.mono (by decide)) (by rfl) T.m_law_code T.k_law_code b_law_code .nil pass0 (pa_cons (pv 1) (pa_cons (pv 3) (pa_cons pe_int pa_nil)))) pa_nil)) (by rfl))
      (pss_cons (ps_setLc (i := 6) (own := [("_law_k", 16)]) (g := gName 16) (by rfl) sc_law.nd rfl rfl (sw_true rfl rfl rfl (by decide +kernel)) (pi_range1 (by rfl) T.range (pa_cons pe_int pa_nil)) (blkOk_by (own := [("_law_k", 16)]) (N := N_law) (sc := defScope s_law) (by decide +kernel)) (fun _ _ _ _ _ => pg_name (i := 16) sc_law.nd rfl (Or.inl rfl)) (fun _ _ _ _ _ => pts_nil) (fun _ _ _ _ _ => (pe_call G_law_column (hr.mono (by decide)) (by rfl) T.m_law_column T.k_law_column b_law_column .nil pass0 (pa_cons (pv 1) (pa_cons (pv 3) (pa_cons pe_int pa_nil))))))
      (pss_cons (ps_if (pt_not (pt_val (pe_call G_law_is_sum_right (hr.mono (by decide)) (by rfl) T.m_law_is_sum_right T.k_law_is_sum_right b_law_is_sum_right .nil passL (pa_cons (pv 4) (pa_cons (pv 5) (pa_cons (pv 6) pa_nil)))))) (pss_one (ps_ret pe_bl)) pss_nil)
      (pss_cons (ps_if (pt_not (pt_val (pe_call G_law_is_factor_right (hr.mono (by decide)) (by rfl) T.m_law_is_factor_right T.k_law_is_factor_right b_law_is_factor_right .nil passL (pa_cons (pv 4) (pa_cons (pe_call G_law_pick (hr.mono (by decide)) (by rfl) T.m_law_pick T.k_law_pick b_law_pick .nil pass0 (pa_cons (pv 1) (pa_cons (pe_lst (pa_cons pe_int (pa_cons pe_int (pa_cons pe_int (pa_cons (pe_op op_pow pe_int pe_int) pa_nil))))) pa_nil))) (pa_cons (pe_call G_law_bits (hr.mono (by decide)) (by rfl) T.m_law_bits T.k_law_bits b_law_bits .nil pass0 (pa_cons (pv 1) pa_nil)) (pa_cons (pv 6) pa_nil))))))) (pss_one (ps_ret pe_bl)) pss_nil)
      (pss_cons (ps_set (i := 12) sc_law.nd rfl (Or.inr rfl) (pe_call G_law_letters (hr.mono (by decide)) (by rfl) T.m_law_letters T.k_law_letters b_law_letters .nil pass0 (pa_cons (pv 1) (pa_cons (pe_op op_add pe_int (pe_call G_law_draw (hr.mono (by decide)) (by rfl) T.m_law_draw T.k_law_draw b_law_draw .nil pass0 (pa_cons (pv 1) (pa_cons pe_int pa_nil)))) pa_nil))))
      (pss_cons (ps_set (i := 15) sc_law.nd rfl (Or.inr rfl) (pe_callTy (call_dictP rfl) (by rfl) T.dict (by decide +kernel) (pa_cons (pe_lc (own := [("_law_value", 17)]) (g := gName 17) (by rfl) sc_law.nd (pi_str (pv 12)) (blkOk_by (own := [("_law_value", 17)]) (N := N_law) (sc := defScope s_law) (by decide +kernel)) (fun _ _ _ _ _ => pg_name (i := 17) sc_law.nd rfl (Or.inl rfl)) (fun _ _ _ _ _ => pts_nil) (fun _ _ _ _ _ => (pe_tup (pa_cons (pv 17) (pa_cons (pe_call G_law_column (hr.mono (by decide)) (by rfl) T.m_law_column T.k_law_column b_law_column .nil pass0 (pa_cons (pv 1) (pa_cons (pv 3) (pa_cons pe_int pa_nil)))) pa_nil))))) pa_nil)))
      (pss_cons (ps_if (pt_not (pt_val (pe_call G_law_are_words_right (hr.mono (by decide)) (by rfl) T.m_law_are_words_right T.k_law_are_words_right b_law_are_words_right .nil passL (pa_cons (pv 4) (pa_cons (pv 12) (pa_cons (pv 15) (pa_cons (pe_lc (own := [("_law_k", 16)]) (g := gName 16) (by rfl) sc_law.nd (pi_range1 (by rfl) T.range (pa_cons pe_int pa_nil)) (blkOk_by (own := [("_law_k", 16)]) (N := N_law) (sc := defScope s_law) (by decide +kernel)) (fun _ _ _ _ _ => pg_name (i := 16) sc_law.nd rfl (Or.inl rfl)) (fun _ _ _ _ _ => pts_nil) (fun _ _ _ _ _ => (pe_call G_law_column (hr.mono (by decide)) (by rfl) T.m_law_column T.k_law_column b_law_column .nil pass0 (pa_cons (pv 1) (pa_cons (pv 12) (pa_cons pe_int pa_nil)))))) pa_nil))))))) (pss_one (ps_ret pe_bl)) pss_nil)
      (pss_cons (ps_asg (pe_tup (pa_cons (pe_call G_law_made_code (hr.mono (by decide)) (by rfl) T.m_law_made_code T.k_law_made_code b_law_made_code .nil passL (pa_cons (pv 4) pa_nil)) (pa_cons (pe_ix ix_list (pe_lc (own := [("_law_letter", 18)]) (g := gName 18) (by rfl) sc_law.nd (pi_str pe_str) (blkOk_by (own := [("_law_letter", 18)]) (N := N_law) (sc := defScope s_law) (by decide +kernel)) (fun _ _ _ _ _ => pg_name (i := 18) sc_law.nd rfl (Or.inl rfl)) (fun _ _ _ _ _ => (pts_one (pt_cmpR op_notIn_sign (pv 18) (pv 3) (by rfl)))) (fun _ _ _ _ _ => (pv 18))) pe_int (fun _ _ => rfl)) pa_nil))) (pg_tup (by rfl) (pgs_cons (pg_name (i := 9) sc_law.nd rfl (Or.inr rfl)) (pgs_cons (pg_name (i := 7) sc_law.nd rfl (Or.inl rfl)) pgs_nil))))
      (pss_cons (ps_set (i := 10) sc_law.nd rfl (Or.inr rfl) (pe_call G_law_made_code (hr.mono (by decide)) (by rfl) T.m_law_made_code T.k_law_made_code b_law_made_code .nil passL (pa_cons (pe_tup (pa_cons (pv 7) (pa_cons (pe_lst (pa_cons (pe_lst (pa_cons (pe_tup (pa_cons pe_int (pa_cons pe_int pa_nil))) pa_nil)) pa_nil)) (pa_cons (pe_lst (pa_cons pe_int pa_nil)) pa_nil)))) pa_nil)))
      (pss_cons (ps_if (pt_cmpR (op_neD hr.units) (pe_callC cxok0 G_law_caught (hr.mono (by decide)) (fun _ => rfl) (by rfl) T.m_law_caught T.k_law_caught b_law_caught .nil pass0 (pa_cons (pe_lamV T1.tb rfl T1.tm rfl T1.tu rfl (fun y hy e => Or.inl (cells_free nc_law_l0 y hy e))) pa_nil)) (pe_tup (pa_cons pe_str pa_nil)) (nomark _)) (pss_one (ps_ret pe_bl)) pss_nil)
      (pss_cons (ps_if (pt_cmpR (op_neD hr.units) (pe_callC cxok0 G_law_caught (hr.mono (by decide)) (fun _ => rfl) (by rfl) T.m_law_caught T.k_law_caught b_law_caught .nil pass0 (pa_cons (pe_lamV T1.tb rfl T1.tm rfl T1.tu rfl (fun y hy e => Or.inl (cells_free nc_law_l1 y hy e))) pa_nil)) (pe_tup pa_nil) (nomark _)) (pss_one (ps_ret pe_bl)) pss_nil)
      (pss_cons (ps_set (i := 8) sc_law.nd rfl (Or.inl rfl) (pe_call G_law_draw (hr.mono (by decide)) (by rfl) T.m_law_draw T.k_law_draw b_law_draw .nil pass0 (pa_cons (pv 1) (pa_cons (pe_callB call_len (by rfl) T.len PySem.boot_len (pa_cons (pv 12) pa_nil)) pa_nil))))
      (pss_cons (ps_dput hu (pv 15) (pe_ix ix_str (pv 12) (pv 8) (fun _ _ => rfl)) (pe_op op_add_str (pe_slice sl_str (pe_dget hu (pv 15) (pe_ix ix_str (pv 12) (pv 8) (fun _ _ => rfl)) (fun _ _ => rfl)) po_none (po_some pe_int)) (pv 7)) rfl)
      (pss_cons (ps_if (pt_cmpR (op_neD hr.units) (pe_callC cxok0 G_law_caught (hr.mono (by decide)) (fun _ => rfl) (by rfl) T.m_law_caught T.k_law_caught b_law_caught .nil pass0 (pa_cons (pe_lamV T1.tb rfl T1.tm rfl T1.tu rfl (fun y hy e => Or.inl (cells_free nc_law_l2 y hy e))) pa_nil)) (pe_tup (pa_cons pe_str (pa_cons (pv 8) pa_nil))) (nomark _)) (pss_one (ps_ret pe_bl)) pss_nil)
      (pss_cons (ps_asg (pe_tup (pa_cons (pe_call G_law_made_code (hr.mono (by decide)) (by rfl) T.m_law_made_code T.k_law_made_code b_law_made_code .nil passL (pa_cons (pe_call G_law_wheel (hr.mono (by decide)) (by rfl) T.m_law_wheel T.k_law_wheel b_law_wheel .nil pass0 (pa_cons (pv 3) (pa_cons pe_int pa_nil))) pa_nil)) (pa_cons (pe_call G_law_made_code (hr.mono (by decide)) (by rfl) T.m_law_made_code T.k_law_made_code b_law_made_code .nil passL (pa_cons (pe_call G_law_wheel (hr.mono (by decide)) (by rfl) T.m_law_wheel T.k_law_wheel b_law_wheel .nil pass0 (pa_cons (pv 3) (pa_cons pe_int pa_nil))) pa_nil)) pa_nil))) (pg_tup (by rfl) (pgs_cons (pg_name (i := 11) sc_law.nd rfl (Or.inr rfl)) (pgs_cons (pg_name (i := 13) sc_law.nd rfl (Or.inr rfl)) pgs_nil))))
      (pss_cons (ps_set (i := 14) sc_law.nd rfl (Or.inr rfl) (pe_call G_law_made_code (hr.mono (by decide)) (by rfl) T.m_law_made_code T.k_law_made_code b_law_made_code .nil passL (pa_cons (pe_call G_law_wheel (hr.mono (by decide)) (by rfl) T.m_law_wheel T.k_law_wheel b_law_wheel .nil pass0 (pa_cons (pv 3) (pa_cons pe_int pa_nil))) pa_nil)))
      (pss_cons (ps_if (PW.pt (pw_or (pt_cmpR (op_neD hr.units) (pe_callC cxok0 G_law_caught (hr.mono (by decide)) (fun _ => rfl) (by rfl) T.m_law_caught T.k_law_caught b_law_caught .nil pass0 (pa_cons (pe_lamV T1.tb rfl T1.tm rfl T1.tu rfl (fun y hy e => Or.inl (cells_free nc_law_l3 y hy e))) pa_nil)) (pe_tup pa_nil) (nomark _)) (pw_or1 (pt_cmpR op_ne (pe_callB (call_lenI TL'.lns TL'.lnf GLn (hr.mono (by decide)) bLn pass0) (by rfl) T.len PySem.boot_len (pa_cons (pe_call Gsummed (hr.mono (by decide)) (by rfl) T.msummed T.ksummed bsummed .nil passL (pa_cons (pv 11) (pa_cons (pv 13) pa_nil))) pa_nil)) pe_int (nomark _))))) (pss_one (ps_ret pe_bl)) pss_nil)
      (pss_one (ps_if (pt_cmpR (op_neD hr.units) (pe_callC cxok0 G_law_caught (hr.mono (by decide)) (fun _ => rfl) (by rfl) T.m_law_caught T.k_law_caught b_law_caught .nil pass0 (pa_cons (pe_lamV T1.tb rfl T1.tm rfl T1.tu rfl (fun y hy e => Or.inl (cells_free nc_law_l4 y hy e))) pa_nil)) (pe_tup (pa_cons pe_str (pa_cons pe_str pa_nil))) (nomark _)) (pss_one (ps_ret pe_bl)) pss_nil)))))))))))))))))))))
      (pss_one (ps_ret pe_bl)))), ?_⟩
    refine ⟨_, rfl, a, ns, rfl, hS, hlen, fun p c H1 hpn hcn hp1 s1 => ?_⟩
    have hT1 : TabsN NT H1 := hT.ext fun b o e => s1 b o e
    have hJ : ∀ l : Nat, 0 ≤ 2 + (if (l : Int) < 5 then (l : Int) else 5) ∧ 2 + (if (l : Int) < 5 then (l : Int) else 5) ≤ 7 := fun l => by split <;> omega
    have hJ1 := hJ (ns.map V.int).length
    refine ⟨_, rfl, _, _, rfl, Or.inl ⟨_, (Kl.same s1).seq hS, rfl⟩, _, _, rfl, _, _, rfl, rfl, _, rfl, (by show -(2 ^ 62) ≤ 2 + (if ((ns.map V.int).length : Int) < 5 then ((ns.map V.int).length : Int) else 5); omega), (by show 2 + (if ((ns.map V.int).length : Int) < 5 then ((ns.map V.int).length : Int) else 5) < 2 ^ 62; omega),
      for_range (n := (2 + (if ((ns.map V.int).length : Int) < 5 then ((ns.map V.int).length : Int) else 5)).toNat) (fun i σ H2 => ∃ v2 v3 v4 v5 v6 v7 v8 v9 v10 v11 v12 v13 v14 v15 v16 v17 v18 : Option V, σ = [some (.ref a), some (.ref p), v2, v3, v4, v5, v6, v7, v8, v9, v10, v11, v12, v13, v14, v15, v16, v17, v18] ∧ Pen H2 p c (i * 20000) ∧ TabsN NT H2)
      ⟨none, none, none, none, none, none, none, none, none, none, none, none, none, none, none, none, none, rfl, hp1, hT1⟩ ?_ ?_⟩
    · rintro i σ H2 hi ⟨v2, v3, v4, v5, v6, v7, v8, v9, v10, v11, v12, v13, v14, v15, v16, v17, v18, rfl, hp2, hT2⟩
      have hi8 : i < 7 := by omega
      refine ⟨_, rfl, _, rfl, p, c, 3, _, rfl, hp2, by omega, by decide, by decide, fun d H3 d0 d1 hp3 k3 => ⟨_, _, rfl, rfl, ?_⟩⟩
      obtain ⟨m, hm⟩ : ∃ m : Nat, 1 + d = m := ⟨(1 + d).toNat, by omega⟩
      refine ⟨p, c, m, _, (by show [V.ref p, V.int (1 + d)] = [V.ref p, V.int m]; rw [hm]), hp3, by omega, by omega, fun z H4 hz hp4 k4 => ?_⟩
      obtain ⟨hzl, hzs, hzc⟩ := hz
      have hz3 : z.length ≤ 3 := by omega
      have hz1 : 1 ≤ z.length := by omega
      obtain ⟨kvp2, hdp2⟩ := hp2.dk
      have hT4 := tabsN_kp hT2 (k3.trans k4) hdp2
      obtain ⟨kvp4, hdp4⟩ := hp4.dk
      clear k3 k4 hdp2 hp2 hp3 hT2
      -- two codes
      refine ⟨_, rfl, _, rfl, p, c, z, 5, _, rfl, hp4, by omega, by decide, by decide, by omega, fun t1 r1 e1 H5 hD1 hg1 hl1 hp5 k5 => ?_⟩
      obtain ⟨kvp5, hdp5⟩ := hp5.dk
      refine ⟨_, rfl, _, rfl, p, c, z, 5, _, rfl, hp5, by omega, by decide, by decide, by omega, fun t2 r2 e2 H6 hD2 hg2 hl2 hp6 k6 => ⟨_, _, rfl, ?_⟩⟩
      have hD1 := hD1.mv (Kl.kp k6 hdp5)
      have hT6 := tabsN_kp hT4 (k5.trans k6) hdp4
      clear hT4 hp4 hp5 k5 k6 hdp4 hdp5
      obtain ⟨kvp6, hdp6⟩ := hp6.dk
      -- columns
      refine ⟨8, rfl, by decide, by decide, fun D7 hD7 => lc_range (lo := 0) (n := 8) (fun j H7 => ∃ ys : List (List Nat), H7 D7 = some (.lst (ys.map fun l => V.str (mkS l))) ∧ ys.length = j ∧ (∀ l ∈ ys, l.length ≤ 12 ∧ ∀ x ∈ l, x ∈ TL.tl z) ∧ Pen H7 p c (i * 20000 + 10100 + j * 300) ∧ Kp p H6 H7)
        ⟨[], upd_same, rfl, (fun l hl => nomatch hl), (hp6.same (same_new hD7)).mono (by omega), Kp.of (same_new hD7)⟩ ?_ ?_⟩
      · rintro j H7 hj ⟨ys, hD17, hyl, hys, hp17, k17⟩
        have nD7 := hp6.new hD7
        refine ⟨rfl, ?_⟩
        refine lcYes ?_
        refine ⟨_, rfl, _, rfl, p, c, z, 12, _, rfl, hp17, by omega, by decide, by omega, by omega, fun y H18 hy1 hy2 hp18 k18 => ?_⟩
        have hD18 := k18 _ _ hD17 nD7.1
        refine ⟨_, hD18, ?_, ys ++ [TL.tl y], ?_, ?_, fun l hl => ?_, ?_, (k17.trans k18).put hD7⟩
        · rw [List.length_map]; exact small1000 (by omega)
        · rw [upd_same, List.map_append, List.map_singleton, mkS_tl]
        · rw [List.length_append, hyl]; rfl
        · rcases List.mem_append.mp hl with q | q
          · exact hys l q
          · rw [List.mem_singleton.mp q]; exact ⟨by rw [← TL.len_tl]; exact hy1, hy2⟩
        · exact (hp18.put nD7.1 nD7.2).mono (by omega)
      rintro H7 ⟨ys, hcl7, hyl, hys, hp7, k7⟩
      have hT7 := tabsN_kp hT6 k7 hdp6
      have hD1 := hD1.mv (Kl.kp k7 hdp6)
      have hD2 := hD2.mv (Kl.kp k7 hdp6)
      have hcl7p : D7 ≠ p := (hp6.new hD7).1
      clear k7 hdp6 hT6 hp6 hD7
      -- the sum
      have h25 : r1.length * r2.length ≤ 40 := Nat.le_trans (Nat.mul_le_mul (by omega : r1.length ≤ 5) (by omega : r2.length ≤ 5)) (by decide)
      refine ⟨_, rfl, _, rfl, _, rfl, t1, t2, z, r1, r2, e1, e2, D7, ys, rfl, hD1, hD2, hg1, hg2, hz1, hz3, by omega, by omega, h25, hcl7, by omega, fun y hy => ⟨by have := (hys y hy).1; omega, (hys y hy).2⟩, hT7, fun H8 s8 => ?_⟩
      refine ⟨_, rfl, ?_⟩
      show (if false = true then _ else _)
      rw [if_neg (by decide)]
      have hD1 := hD1.mv s8.kl
      have hcl8 := s8.ext _ _ hcl7 (fun _ z => nomatch z)
      have hp8 := hp7.sameT s8
      have hT8 := s8.tab
      clear s8 hT7 hp7 hcl7 hD2
      -- the factor
      refine ⟨_, rfl, _, rfl, _, _, rfl, rfl, ⟨by decide, by decide, by decide⟩, by show 4 ≤ sizeLine; decide, fun A1 hA1 => ?_⟩
      refine ⟨p, c, A1, _, _, rfl, hp8.same (same_new hA1), by omega, SqL.of upd_same, by show 0 < 4; decide, by show 4 ≤ 1000; decide, fun j v H9 hv hp9 k9 => ?_⟩
      obtain ⟨fac, rfl, hf0, hf1⟩ : ∃ fac : Int, v = .int fac ∧ -(2 ^ 64) < fac ∧ fac < 2 ^ 64 := by
        have hm := List.mem_of_getElem? hv
        rcases List.mem_cons.mp hm with e | hm
        · exact ⟨0, e, by decide, by decide⟩
        rcases List.mem_cons.mp hm with e | hm
        · exact ⟨1, e, by decide, by decide⟩
        rcases List.mem_cons.mp hm with e | hm
        · exact ⟨3, e, by decide, by decide⟩
        · exact ⟨10 ^ 9, List.mem_singleton.mp hm, by decide, by decide⟩
      obtain ⟨kvp8, hdp8⟩ := hp8.dk
      have k9 := (Kp.of (same_new (o := .lst [.int 0, .int 1, .int 3, .int (10 ^ 9)]) hA1)).trans k9
      refine ⟨_, rfl, p, c, _, rfl, hp9, by omega, fun more H10 _ _ hp10 k10 => ?_⟩
      have k810 := k9.trans k10
      have hT10 := tabsN_kp hT8 k810 hdp8
      have hD1 := hD1.mv (Kl.kp k810 hdp8)
      have hcl10 := k810 _ _ hcl8 hcl7p
      clear k9 k10 k810 hp9 hT8 hcl8 hA1 hv hdp8 hp8
      refine ⟨_, rfl, t1, z, r1, e1, fac, more, D7, ys, rfl, hD1, hg1, hz1, hz3, by omega, ⟨hf0, hf1⟩, hcl10, by omega, fun y hy => ⟨by have := (hys y hy).1; omega, (hys y hy).2⟩, hT10, fun H11 s11 => ?_⟩
      refine ⟨_, rfl, ?_⟩
      show (if false = true then _ else _)
      rw [if_neg (by decide)]
      have hD1 := hD1.mv s11.kl
      have hp11 := hp10.sameT s11
      have hT11 := s11.tab
      clear s11 hT10 hp10 hcl10
      -- fresh values
      refine ⟨_, rfl, _, rfl, p, c, 3, _, rfl, hp11, by omega, by decide, by decide, fun d2 H12 e0 e3 hp12 k12 => ⟨_, _, rfl, rfl, ?_⟩⟩
      obtain ⟨m2, hm2⟩ : ∃ m2 : Nat, 1 + d2 = m2 := ⟨(1 + d2).toNat, by omega⟩
      refine ⟨p, c, m2, _, (by show [V.ref p, V.int (1 + d2)] = [V.ref p, V.int m2]; rw [hm2]), hp12, by omega, by omega, fun zf H13 hzf hp13 k13 => ?_⟩
      obtain ⟨hfl, hfs, hfc⟩ := hzf
      have hf3 : zf.length ≤ 3 := by omega
      have hf1' : 1 ≤ zf.length := by omega
      have hfL3 : (TL.tl zf).length ≤ 3 := by rw [← TL.len_tl]; exact hf3
      obtain ⟨kvp11, hdp11⟩ := hp11.dk
      have hT13 := tabsN_kp hT11 (k12.trans k13) hdp11
      have hD1 := hD1.mv (Kl.kp (k12.trans k13) hdp11)
      clear k12 k13 hp12 hdp11 hp11 hT11
      obtain ⟨kvp13, hdp13⟩ := hp13.dk
      -- words
      refine ⟨_, rfl, zf, rfl, fun D hD => lc_it walk_strS (fun j H5 => ∃ ps kvs, PrW z p c D H13 H5 (i * 20000 + 12700) (((TL.tl zf).take j).map fun x => Sum.inr (sg x)) ps kvs) ⟨[], [], PrW.start (hp13.mono (by omega)) hD⟩ (fun _ _ _ _ => trivial) ?_ ?_⟩
      · rintro j x H5' H5 hj ⟨ps, kvs, I5⟩ ⟨rfl, cc, hcc, rfl⟩
        have hkl : (((TL.tl zf).take j).map fun x => (Sum.inr (sg x) : Key)).length ≤ 3 := by rw [List.length_map, List.length_take]; omega
        refine ⟨rfl, ?_⟩
        refine lcYes ?_
        refine ⟨_, rfl, _, rfl, _, rfl, p, c, z, 5, _, rfl, I5.pen, by omega, by decide, by omega, by omega, fun y H6 hy1 hy2 hp6 k6 => ⟨by show 2 ≤ sizeLine; decide, fun q hq => ?_⟩⟩
        obtain ⟨h1, h2⟩ := I5.step (k := Sum.inr (sg cc)) (y := y) hD (hp13.new hD) ⟨y, rfl, hy1, hy2⟩ hp6 k6 hq
        refine ⟨_, h1, ?_, ps ++ [q], kvs ++ [(Sum.inr (sg cc), .str y)], ?_⟩
        · have := congrArg List.length I5.key
          rw [List.length_map] at this
          rw [List.length_map, I5.at_.length, this]
          exact small1000 (by omega)
        · rw [List.take_add_one, hcc, List.map_append]
          exact h2
      rintro H5 ⟨ps, kvs, I5⟩
      rw [List.take_of_length_le (by rw [← TL.len_tl]; exact Nat.le_refl _)] at I5
      refine ⟨D, ps, kvs, rfl, SqL.of I5.lst, I5.at_.mono fun a kv h => SqT.of h, fun S hS5 => ?_⟩
      have hwd : ∀ x ∈ TL.tl zf, valV (mergeK [] kvs) (Sum.inr (sg x)) = some (.str (strOf (mergeK [] kvs) (Sum.inr (sg x)))) ∧ (strOf (mergeK [] kvs) (Sum.inr (sg x))).length ≤ 5 ∧ ∀ u ∈ TL.tl (strOf (mergeK [] kvs) (Sum.inr (sg x))), u ∈ TL.tl z := fun x hx => strOf_merge I5.int (by rw [I5.key]; exact List.mem_map.mpr ⟨x, hx, rfl⟩)
      have hp14 := I5.pen.same (same_new (o := .dK (mergeK [] kvs)) hS5)
      have k14 := I5.kp.trans (Kp.of (same_new (o := .dK (mergeK [] kvs)) hS5))
      have hS14 : (L2.upd H5 S (.dK (mergeK [] kvs))) S = some (.dK (mergeK [] kvs)) := upd_same
      have nSp := I5.pen.new hS5
      rw [List.length_map] at hp14
      generalize L2.upd H5 S (.dK (mergeK [] kvs)) = H14 at hp14 k14 hS14 ⊢
      have hkl3 : (mergeK [] kvs).length ≤ 3 := by
        have h1 := merge_len kvs []
        have h2 := congrArg List.length I5.key
        rw [List.length_map, List.length_map] at h2
        have h3 : ([] : List (Key × V)).length = 0 := rfl
        omega
      generalize mergeK [] kvs = kS at hwd hS14 hkl3 ⊢
      have hT14 := tabsN_kp hT13 k14 hdp13
      have hD1 := hD1.mv (Kl.kp k14 hdp13)
      clear I5 hS5 k14 hdp13 hT13 hp13
      -- columns of fresh values
      obtain ⟨kvp14, hdp14⟩ := hp14.dk
      refine ⟨_, rfl, _, rfl, _, rfl, 6, rfl, by decide, by decide, fun D9 hD9 => lc_range (lo := 0) (n := 6) (fun j H7 => ∃ ys : List (List Nat), H7 D9 = some (.lst (ys.map fun l => V.str (mkS l))) ∧ ys.length = j ∧ (∀ l ∈ ys, l.length ≤ 8 ∧ ∀ x ∈ l, x ∈ TL.tl zf) ∧ Pen H7 p c (i * 20000 + 14000 + j * 300) ∧ Kp p H14 H7)
        ⟨[], upd_same, rfl, (fun l hl => nomatch hl), (hp14.same (same_new hD9)).mono (by omega), Kp.of (same_new hD9)⟩ ?_ ?_⟩
      · rintro j H7 hj ⟨ys, hD17, hyl, hys, hp17, k17⟩
        have nD7 := hp14.new hD9
        refine ⟨rfl, ?_⟩
        refine lcYes ?_
        refine ⟨_, rfl, _, rfl, p, c, zf, 8, _, rfl, hp17, by omega, by decide, by omega, by omega, fun y H18 hy1 hy2 hp18 k18 => ?_⟩
        have hD18 := k18 _ _ hD17 nD7.1
        refine ⟨_, hD18, ?_, ys ++ [TL.tl y], ?_, ?_, fun l hl => ?_, ?_, (k17.trans k18).put hD9⟩
        · rw [List.length_map]; exact small1000 (by omega)
        · rw [upd_same, List.map_append, List.map_singleton, mkS_tl]
        · rw [List.length_append, hyl]; rfl
        · rcases List.mem_append.mp hl with q | q
          · exact hys l q
          · rw [List.mem_singleton.mp q]; exact ⟨by rw [← TL.len_tl]; exact hy1, hy2⟩
        · exact (hp18.put nD7.1 nD7.2).mono (by omega)
      rintro H15 ⟨ws, hcl15, hwl, hws, hp15, k15⟩
      have hT15 := tabsN_kp hT14 k15 hdp14
      have hD1 := hD1.mv (Kl.kp k15 hdp14)
      have hS15 := k15 _ _ hS14 nSp.1
      clear k15 hdp14 hT14 hp14 hD9 hS14
      refine ⟨t1, z, zf, S, kS, fun x => strOf kS (Sum.inr (sg x)), r1, e1, D9, ws, rfl, hD1, hg1, by omega, hf1', hf3, by omega, hS15, fun x hx => (hwd x hx).1, fun x hx => Nat.le_trans (hwd x hx).2.1 (by decide), fun x hx => (hwd x hx).2.2, hcl15, by omega, fun y hy => ⟨by have := (hws y hy).1; omega, (hws y hy).2⟩, hT15, fun H16 s16 => ?_⟩
      refine ⟨_, rfl, ?_⟩
      show (if false = true then _ else _)
      rw [if_neg (by decide)]
      have hD1 := hD1.mv s16.kl
      have hS16 := s16.ext _ _ hS15 (fun _ z => nomatch z)
      have hp16 := hp15.sameT s16
      have hT16 := s16.tab
      clear s16 hT15 hp15 hcl15 hS15 hws hwl
      -- the code, a strange letter
      refine ⟨_, rfl, t1, z, r1, e1, rfl, hD1, hg1, by omega, by omega, fun oa H17 hCa s17 => ?_⟩
      refine ⟨_, rfl, fun D hDn => lc_it (walk_strS (z := Str.ofString "abcdefghij")) (fun j H20 => H20 D = some (.lst (((abc.take j).filter (fun x => decide (x ∉ TL.tl z))).map fun x => V.str (sg x))) ∧ Same H17 H20)
        ⟨upd_same, same_new hDn⟩ (fun _ _ _ _ => trivial) ?_ ?_⟩
      · rintro l x H20' H20 hl ⟨hD20, s20⟩ ⟨rfl, cc, hcc, rfl⟩
        obtain ⟨hlt, he⟩ := List.getElem?_eq_some_iff.mp hcc
        have et : abc.take (l + 1) = abc.take l ++ [cc] := by rw [← he]; exact take_more hlt
        refine ⟨rfl, _, rfl, _, rfl, cc, z, rfl, rfl, _, rfl, ite2 (fun c2 => ?_) (fun c2 => ?_)⟩
        · refine ⟨_, rfl, _, hD20, ?_, ?_, s20.put hDn⟩
          · rw [List.length_map]
            refine Nat.lt_of_le_of_lt (List.length_filter_le _ _) (Nat.lt_of_le_of_lt (List.length_take_le' _ _) ?_)
            exact small1000 (by decide +kernel)
          · rw [upd_same, et, List.filter_append, List.map_append]
            have : decide (cc ∉ TL.tl z) = true := by simpa using c2
            rw [List.filter_cons_of_pos (by simpa using this)]
            rfl
        · refine ⟨?_, s20⟩
          rw [hD20, et, List.filter_append]
          have : ¬ decide (cc ∉ TL.tl z) = true := by simpa using c2
          rw [List.filter_cons_of_neg (by simpa using this), List.filter_nil, List.append_nil]
      rintro H20 ⟨hD20, s20⟩
      rw [show (Str.ofString "abcdefghij").length = abc.length from rfl, List.take_length] at hD20
      obtain ⟨cc, rest, hcr⟩ : ∃ cc rest, abc.filter (fun x => decide (x ∉ TL.tl z)) = cc :: rest := by
        cases e : abc.filter (fun x => decide (x ∉ TL.tl z)) with
        | nil => have := abc_more (z := TL.tl z) (by rw [← TL.len_tl]; omega); rw [e] at this; exact absurd this (by decide)
        | cons a r => exact ⟨a, r, rfl⟩
      have hcz : cc ∉ TL.tl z := by
        have : cc ∈ abc.filter (fun x => decide (x ∉ TL.tl z)) := by rw [hcr]; exact List.mem_cons_self ..
        simpa using (List.mem_filter.mp this).2
      rw [hcr, List.map_cons] at hD20
      refine ⟨D, _, 0, _, rfl, rfl, SqL.of hD20, atI_nat (j := 0) rfl, by show 2 ≤ sizeLine; decide, fun q1 hq1 => ?_⟩
      have hCa := hCa.same (s20.trans (same_new (o := .tup [.ref oa, .str (sg cc)]) hq1))
      have s1720 := (s17.trans s20).trans (same_new (o := .tup [.ref oa, .str (sg cc)]) hq1)
      have hp17 := hp16.same s1720
      have hS17 := s1720 _ _ hS16
      have hT17 : TabsN NT (L2.upd H20 q1 (.tup [.ref oa, .str (sg cc)])) := hT16.ext fun b o e => s1720 b o e
      have hq17 : (L2.upd H20 q1 (.tup [.ref oa, .str (sg cc)])) q1 = some (.tup [.ref oa, .str (sg cc)]) := upd_same
      clear hD20 s17 s20 s1720 hp16 hS16 hT16 hcr hq1
      generalize L2.upd H20 q1 (.tup [.ref oa, .str (sg cc)]) = H21 at hCa hp17 hS17 hT17 hq17 ⊢
      refine ⟨q1, _, rfl, SqT.of hq17, rfl, _, _, rfl, _, _, rfl, rfl, ?_⟩
      -- the code over another value
      refine ⟨_, rfl, by show 2 ≤ sizeLine; decide, fun x1 hx1 => ⟨by show 1 ≤ sizeLine; decide, fun x2 hx2 => ⟨by show 1 ≤ sizeLine; decide, fun x3 hx3 => ⟨by show 1 ≤ sizeLine; decide, fun x4 hx4 => ⟨by show 3 ≤ sizeLine; decide, fun x5 hx5 => ?_⟩⟩⟩⟩⟩
      have y4 := same_new (o := .tup [.str (sg cc), .ref x3, .ref x4]) hx5
      have y3 := (same_new (o := .lst [.int 0]) hx4).trans y4
      have y2 := (same_new (o := .lst [.ref x2]) hx3).trans y3
      have y1 := (same_new (o := .lst [.ref x1]) hx2).trans y2
      have y0 := (same_new (o := .tup [.int 0, .int 1]) hx1).trans y1
      refine ⟨.ref x5, sg cc, [[(0, 1)]], [0], rfl, dp_one (y1 _ _ upd_same) (y2 _ _ upd_same) (y3 _ _ upd_same) (y4 _ _ upd_same) upd_same, good_one, by show 1 ≤ 26; decide, by show 1 ≤ 100; decide, fun ob H22 hCb s22 => ?_⟩
      have s2122 := y0.trans s22
      have hCa := hCa.same s2122
      have hp22 := hp17.same s2122
      have hS22 := s2122 _ _ hS17
      have hT22 : TabsN NT H22 := hT17.ext fun b o e => s2122 b o e
      clear y0 y1 y2 y3 y4 s22 s2122 hp17 hS17 hT17 hq17
      -- other values
      have hne : z ≠ sg cc := fun e => hcz (by rw [e, sg_tl]; exact List.mem_singleton.mpr rfl)
      refine ⟨hT22, fun fm22 c122 H22a eN back Ta nf hfm hc1 => ?_⟩
      have sta : SameT NT H22 H22a := ⟨eN, back, Ta⟩
      refine fun cs hcap hcn => ?_
      have hcap0 := cap_of (scope := lamScope l_law_l0) (fr := R_law_l0) (js := [9, 10]) hcap (cells_free nc_law_l0) nr_law_l0 rfl
      have FA := fv_of_lok cxok (lok_ask0 (P := P) (w := w) (K := K) (mg := mg) (base := base) (NT := NT) (C := C) (CV := CV) (CU := CU) (CT := CT) (fg := fm22) (c' := c122) (cl := _) (q := Q_law ++ "<lambda>") (o1 := oa) (o2 := ob) T.msummed T.ksummed Gsummed bsummed hz3 (SumOut.unlike (r1 := r1) (r2 := [[(0, 1)]]) (e1 := e1) (e2 := [0]) hne)) hcap0
      have FA2 := FA.imp (S' := fun H => HeldL fm22 (LF l_law_l0 (Q_law ++ "<lambda>") (cloFrom (cxOf (L2.CX P w) P w K mg base N_law "law" (defScope s_law) f (.ref cL) A outer s H E).env.cells (lamScope l_law_l0).names []) c122) (lamBody l_law_l0) cs H ∧ CodeAt K C H oa z r1 e1 ∧ CodeAt K C H ob (sg cc) [[(0, 1)]] [0]) (sp' := spAsk NT CV CU CT (.unlike)) (fun H h => h.1) (fun vs H Q E h q => ⟨rfl, (h.2.1).hid h.1.cells, (h.2.2).hid h.1.cells, ask_hid hcap.data h.1.cells q⟩)
      refine ⟨fm22, _, .unlike, rfl, FA2, ⟨⟨shw_keep hcn hfm, shw_keep hcn hc1, held_shw⟩, (stab_code H22 H22a hCa sta.ext).shw hcn, (stab_code H22 H22a hCb sta.ext).shw hcn⟩, Ta.ext fun b o e => shw_keep hcn e, fun t H5h st5 ht => ?_⟩
      obtain ⟨hc5, st5⟩ := sameT_hid hcap.data hcn st5
      have ht5 := tup_hid hc5 ht
      refine ⟨hc5, ?_⟩
      generalize hid cs H5h = H22b at st5 ht5 ⊢
      have st5 := sta.trans st5
      clear FA2 FA hcap0 ht hc5 hcap hcn sta hfm hc1 Ta nf back eN
      refine ⟨by show 1 ≤ sizeLine; decide, fun t2 ht2 => ?_⟩
      refine not_left (K := K) (out := .unlike) ht5 ht2 ?_
      have st5 := st5.trans (SameT.of (same_new (o := .tup (outV (.unlike))) ht2) st5.tab)
      generalize L2.upd H22b t2 (.tup (outV (.unlike))) = H25 at st5 ⊢
      refine ⟨_, rfl, ?_⟩
      show (if false = true then _ else _)
      rw [if_neg (by decide)]
      have hT25 := st5.tab
      have hCa := stab_code H22 H25 hCa st5.ext
      have hp25 := hp22.sameT st5
      have hS25 := st5.ext _ _ hS22 (fun _ z => nomatch z)
      clear st5 hT22 hCb hp22 hS22 ht5 ht2
      have hself : (turns (sst r1 r1 (TL.tl z)) (TL.tl z) [Sum.inl 0, Sum.inl 0] 40).1.length ≤ 40 := sst_len hg1.s hg1.s hg1.pos hg1.pos (Nat.le_trans (Nat.mul_le_mul (by omega : r1.length ≤ 5) (by omega : r1.length ≤ 5)) (by decide))
      refine ⟨hT25, fun fm25 c125 H25a eN back Ta nf hfm hc1 => ?_⟩
      have sta : SameT NT H25 H25a := ⟨eN, back, Ta⟩
      refine fun cs hcap hcn => ?_
      have hcap0 := cap_of (scope := lamScope l_law_l1) (fr := R_law_l1) (js := [9]) hcap (cells_free nc_law_l1) nr_law_l1 rfl
      have FA := fv_of_lok cxok (lok_ask1 (P := P) (w := w) (K := K) (mg := mg) (base := base) (NT := NT) (C := C) (CV := CV) (CU := CU) (CT := CT) (fg := fm25) (c' := c125) (cl := _) (q := Q_law ++ "<lambda>") (o1 := oa) T.msummed T.ksummed Gsummed bsummed hz3 (SumOut.fine rfl hg1.s hg1.s hg1.len hg1.len hg1.pos hg1.pos hself)) hcap0
      have FA2 := FA.imp (S' := fun H => HeldL fm25 (LF l_law_l1 (Q_law ++ "<lambda>") (cloFrom (cxOf (L2.CX P w) P w K mg base N_law "law" (defScope s_law) f (.ref cL) A outer s H E).env.cells (lamScope l_law_l1).names []) c125) (lamBody l_law_l1) cs H ∧ CodeAt K C H oa z r1 e1) (sp' := spAsk NT CV CU CT (.fine)) (fun H h => h.1) (fun vs H Q E h q => ⟨rfl, (h.2).hid h.1.cells, ask_hid hcap.data h.1.cells q⟩)
      refine ⟨fm25, _, .fine, rfl, FA2, ⟨⟨shw_keep hcn hfm, shw_keep hcn hc1, held_shw⟩, (stab_code H25 H25a hCa sta.ext).shw hcn⟩, Ta.ext fun b o e => shw_keep hcn e, fun t H5h st5 ht => ?_⟩
      obtain ⟨hc5, st5⟩ := sameT_hid hcap.data hcn st5
      have ht5 := tup_hid hc5 ht
      refine ⟨hc5, ?_⟩
      generalize hid cs H5h = H25b at st5 ht5 ⊢
      have st5 := sta.trans st5
      clear FA2 FA hcap0 ht hc5 hcap hcn sta hfm hc1 Ta nf back eN
      refine ⟨by show 0 ≤ sizeLine; decide, fun t2 ht2 => ?_⟩
      refine not_left (K := K) (out := .fine) ht5 ht2 ?_
      have st5 := st5.trans (SameT.of (same_new (o := .tup (outV (.fine))) ht2) st5.tab)
      generalize L2.upd H25b t2 (.tup (outV (.fine))) = H28 at st5 ⊢
      refine ⟨_, rfl, ?_⟩
      show (if false = true then _ else _)
      rw [if_neg (by decide)]
      have hT28 := st5.tab
      have hCa := stab_code H25 H28 hCa st5.ext
      have hp28 := hp25.sameT st5
      have hS28 := st5.ext _ _ hS25 (fun _ z => nomatch z)
      clear st5 hT25 hp25 hS25 ht5 ht2 hself
      -- a word with a strange letter
      refine ⟨_, rfl, _, rfl, _, _, rfl, ⟨small13 (by omega), rfl⟩, p, c, (zf.length : Int), _, rfl, hp28, by omega, by omega, by omega, fun g H29 g0 g1 hp29 k29 => ?_⟩
      obtain ⟨gn, rfl⟩ : ∃ gn : Nat, g = gn := ⟨g.toNat, by omega⟩
      obtain ⟨kvp28, hdp28⟩ := hp28.dk
      have hCa := hCa.kp k29 hdp28
      have hT29 := tabsN_kp hT28 k29 hdp28
      have hS29 := k29 _ _ hS28 nSp.1
      clear k29 hdp28 hp28 hT28 hS28
      obtain ⟨cg, hcg⟩ : ∃ cg, (TL.tl zf)[gn]? = some cg := ⟨_, List.getElem?_eq_getElem (by rw [← TL.len_tl]; omega)⟩
      have hcgm := List.mem_of_getElem? hcg
      have hzsl : zf.length ≤ sizeLine := small13 (by omega)
      have hwg := hwd cg hcgm
      have hget : DGet H29 S (.str (sg cg)) (some (.str (strOf kS (Sum.inr (sg cg))))) := by
        have := DGet.k (k := Sum.inr (sg cg)) hS29
        rw [hwg.1] at this
        exact this
      have hcl : (cutS (strOf kS (Sum.inr (sg cg))) none (some 4)).length ≤ 5 := by
        have h1 : (cutS (strOf kS (Sum.inr (sg cg))) none (some 4)).length ≤ (strOf kS (Sum.inr (sg cg))).length := by
          rw [TL.len_tl, cutS_tl, List.length_take, List.length_drop, ← TL.len_tl]
          omega
        exact Nat.le_trans h1 hwg.2.1
      refine ⟨_, rfl, _, rfl, _, rfl, zf, gn, cg, rfl, rfl, hzsl, atI_nat hcg, S, _, rfl, hget, 4, rfl, _, rfl, small13 (Nat.le_trans hwg.2.1 (by decide)), _, rfl, _, _, rfl, rfl, (by show (cutS (strOf kS (Sum.inr (sg cg))) none (some 4)).length + 1 ≤ sizeLine; exact small13 (by omega)), ?_⟩
      refine ⟨_, rfl, _, rfl, _, rfl, zf, gn, cg, rfl, rfl, hzsl, atI_nat hcg, S, _, rfl, DPut.k (k := Sum.inr (sg cg)) hS29 (small1000 (by omega)), ?_⟩
      have hcw : cc ∈ TL.tl (cutS (strOf kS (Sum.inr (sg cg))) none (some 4) ++ sg cc) := by
        rw [TL.tl_append, sg_tl]; exact List.mem_append_right _ (List.mem_singleton.mpr rfl)
      obtain ⟨b1, b2, b3, b4⟩ := words_bad (wd := fun x => strOf kS (Sum.inr (sg x))) hfs hcg (fun x hx => ⟨(hwd x hx).1, (hwd x hx).2.2⟩) hcw hcz
      have k30 : Kp S H29 (L2.upd H29 S (.dK (putK kS (Sum.inr (sg cg)) (.str (cutS (strOf kS (Sum.inr (sg cg))) none (some 4) ++ sg cc))))) := kp_upd
      have hCa := hCa.kp k30 hS29
      have hT30 := tabsN_kp hT29 k30 hS29
      have hp30 := hp29.put (o := .dK (putK kS (Sum.inr (sg cg)) (.str (cutS (strOf kS (Sum.inr (sg cg))) none (some 4) ++ sg cc)))) nSp.1 nSp.2
      have hS30 : (L2.upd H29 S (.dK (putK kS (Sum.inr (sg cg)) (.str (cutS (strOf kS (Sum.inr (sg cg))) none (some 4) ++ sg cc))))) S = some (.dK (putK kS (Sum.inr (sg cg)) (.str (cutS (strOf kS (Sum.inr (sg cg))) none (some 4) ++ sg cc)))) := upd_same
      clear hp29 hS29 hT29 hget
      generalize hkk : putK kS (Sum.inr (sg cg)) (.str (cutS (strOf kS (Sum.inr (sg cg))) none (some 4) ++ sg cc)) = kT at b1 hS30 hT30 hp30 hCa ⊢
      clear hkk k30
      generalize L2.upd H29 S (.dK kT) = H30 at hS30 hT30 hp30 hCa ⊢
      refine ⟨hT30, fun fm30 c130 H30a eN back Ta nf hfm hc1 => ?_⟩
      have sta : SameT NT H30 H30a := ⟨eN, back, Ta⟩
      refine fun cs hcap hcn => ?_
      have hcap0 := cap_of (scope := lamScope l_law_l2) (fr := R_law_l2) (js := [9, 12, 15]) hcap (cells_free nc_law_l2) nr_law_l2 rfl
      have FA := fv_of_lok cxok (lok_ask2 (P := P) (w := w) (K := K) (mg := mg) (base := base) (NT := NT) (C := C) (CV := CV) (CU := CU) (CT := CT) (fg := fm30) (c' := c130) (cl := _) (q := Q_law ++ "<lambda>") (o := oa) (d := S) T.mtranslated T.ktranslated Gtranslated btranslated hg1 (by omega) (by omega) hf3 b1 hcg b2 b3 (fun j c' h1 h2 _ => b4 j c' h1 h2)) hcap0
      have FA2 := FA.imp (S' := fun H => HeldL fm30 (LF l_law_l2 (Q_law ++ "<lambda>") (cloFrom (cxOf (L2.CX P w) P w K mg base N_law "law" (defScope s_law) f (.ref cL) A outer s H E).env.cells (lamScope l_law_l2).names []) c130) (lamBody l_law_l2) cs H ∧ CodeAt K C H oa z r1 e1 ∧ H S = some (.dK kT)) (sp' := spAsk NT CV CU CT (.value gn)) (fun H h => h.1) (fun vs H Q E h q => ⟨rfl, (h.2.1).hid h.1.cells, hid_keep h.1.cells (h.2.2) (fun _ z => nomatch z), ask_hid hcap.data h.1.cells q⟩)
      refine ⟨fm30, _, .value gn, rfl, FA2, ⟨⟨shw_keep hcn hfm, shw_keep hcn hc1, held_shw⟩, (stab_code H30 H30a hCa sta.ext).shw hcn, shw_keep hcn (sta.ext _ _ hS30 (fun _ z => nomatch z))⟩, Ta.ext fun b o e => shw_keep hcn e, fun t H5h st5 ht => ?_⟩
      obtain ⟨hc5, st5⟩ := sameT_hid hcap.data hcn st5
      have ht5 := tup_hid hc5 ht
      refine ⟨hc5, ?_⟩
      generalize hid cs H5h = H30b at st5 ht5 ⊢
      have st5 := sta.trans st5
      clear FA2 FA hcap0 ht hc5 hcap hcn sta hfm hc1 Ta nf back eN
      refine ⟨_, rfl, by show 2 ≤ sizeLine; decide, fun t2 ht2 => ?_⟩
      refine not_left (K := K) (out := .value gn) ht5 ht2 ?_
      have st5 := st5.trans (SameT.of (same_new (o := .tup (outV (.value gn))) ht2) st5.tab)
      generalize L2.upd H30b t2 (.tup (outV (.value gn))) = H33 at st5 ⊢
      refine ⟨_, rfl, ?_⟩
      show (if false = true then _ else _)
      rw [if_neg (by decide)]
      have hT33 := st5.tab
      have hp33 := hp30.sameT st5
      clear st5 hT30 hp30 hS30 hCa ht5 ht2 b1 b2 b3 b4 hcw hwg hwd hcl hcgm hcg hne
      -- wheels
      refine ⟨_, rfl, z, 5, rfl, hz3, by decide, by decide, fun w1 H34 s34 hW1 => ?_⟩
      refine ⟨.ref w1, z, wheelR z.length 5, List.replicate 5 0, rfl, hW1, wheel_good (by decide), by omega, by rw [wheel_len]; decide, fun o1 H35 hC1 s35 => ?_⟩
      refine ⟨_, rfl, z, 8, rfl, hz3, by decide, by decide, fun w2 H36 s36 hW2 => ?_⟩
      refine ⟨.ref w2, z, wheelR z.length 8, List.replicate 8 0, rfl, hW2, wheel_good (by decide), by omega, by rw [wheel_len]; decide, fun o2 H37 hC2 s37 => ⟨by show 2 ≤ sizeLine; decide, fun q2 hq2 => ?_⟩⟩
      refine ⟨q2, _, rfl, SqT.of upd_same, rfl, _, _, rfl, _, _, rfl, rfl, ?_⟩
      refine ⟨_, rfl, z, 9, rfl, hz3, by decide, by decide, fun w3 H38 s38 hW3 => ?_⟩
      refine ⟨.ref w3, z, wheelR z.length 9, List.replicate 9 0, rfl, hW3, wheel_good (by decide), by omega, by rw [wheel_len]; decide, fun o3 H39 hC3 s39 => ?_⟩
      have u2 := ((same_new (o := .tup [.ref o1, .ref o2]) hq2).trans s38).trans s39
      have u1 := (s36.trans s37).trans u2
      have s3339 := (s34.trans s35).trans u1
      have hC1 := hC1.same u1
      have hC2 := hC2.same u2
      have hp39 := hp33.same s3339
      have hT39 : TabsN NT H39 := hT33.ext fun b o e => s3339 b o e
      clear u1 u2 s3339 s34 s35 s36 s37 s38 s39 hW1 hW2 hW3 hp33 hT33 hq2
      obtain ⟨cz, hcz1⟩ : ∃ cz, cz ∈ TL.tl z := ⟨(TL.tl z)[0]'(by rw [← TL.len_tl]; omega), List.getElem_mem _⟩
      have h58 := wheels58 hcz1
      have h59 := wheels59 hcz1
      have g5 := wheel_good (m := z.length) (n := 5) (by decide)
      have g8 := wheel_good (m := z.length) (n := 8) (by decide)
      have g9 := wheel_good (m := z.length) (n := 9) (by decide)
      refine ⟨hT39, fun fm39 c139 H39a eN back Ta nf hfm hc1 => ?_⟩
      have sta : SameT NT H39 H39a := ⟨eN, back, Ta⟩
      refine fun cs hcap hcn => ?_
      have hcap0 := cap_of (scope := lamScope l_law_l3) (fr := R_law_l3) (js := [11, 13]) hcap (cells_free nc_law_l3) nr_law_l3 rfl
      have FA := fv_of_lok cxok (lok_ask3 (P := P) (w := w) (K := K) (mg := mg) (base := base) (NT := NT) (C := C) (CV := CV) (CU := CU) (CT := CT) (fg := fm39) (c' := c139) (cl := _) (q := Q_law ++ "<lambda>") (o1 := o1) (o2 := o2) T.msummed T.ksummed Gsummed bsummed hz3 (SumOut.fine rfl g5.s g8.s g5.len g8.len g5.pos g8.pos (Nat.le_of_eq h58))) hcap0
      have FA2 := FA.imp (S' := fun H => HeldL fm39 (LF l_law_l3 (Q_law ++ "<lambda>") (cloFrom (cxOf (L2.CX P w) P w K mg base N_law "law" (defScope s_law) f (.ref cL) A outer s H E).env.cells (lamScope l_law_l3).names []) c139) (lamBody l_law_l3) cs H ∧ CodeAt K C H o1 z (wheelR z.length 5) (List.replicate 5 0) ∧ CodeAt K C H o2 z (wheelR z.length 8) (List.replicate 8 0)) (sp' := spAsk NT CV CU CT (.fine)) (fun H h => h.1) (fun vs H Q E h q => ⟨rfl, (h.2.1).hid h.1.cells, (h.2.2).hid h.1.cells, ask_hid hcap.data h.1.cells q⟩)
      refine ⟨fm39, _, .fine, rfl, FA2, ⟨⟨shw_keep hcn hfm, shw_keep hcn hc1, held_shw⟩, (stab_code H39 H39a hC1 sta.ext).shw hcn, (stab_code H39 H39a hC2 sta.ext).shw hcn⟩, Ta.ext fun b o e => shw_keep hcn e, fun t H5h st5 ht => ?_⟩
      obtain ⟨hc5, st5⟩ := sameT_hid hcap.data hcn st5
      have ht5 := tup_hid hc5 ht
      refine ⟨hc5, ?_⟩
      generalize hid cs H5h = H39b at st5 ht5 ⊢
      have st5 := sta.trans st5
      clear FA2 FA hcap0 ht hc5 hcap hcn sta hfm hc1 Ta nf back eN
      refine ⟨by show 0 ≤ sizeLine; decide, fun t2 ht2 => ?_⟩
      refine not_left (K := K) (out := .fine) ht5 ht2 ?_
      have st5 := st5.trans (SameT.of (same_new (o := .tup (outV (.fine))) ht2) st5.tab)
      generalize L2.upd H39b t2 (.tup (outV (.fine))) = H42 at st5 ⊢
      refine ⟨_, rfl, ?_⟩
      show (if false = true then _ else _)
      rw [if_neg (by decide)]
      have hT42 := st5.tab
      have hC1 := stab_code H39 H42 hC1 st5.ext
      have hC2 := stab_code H39 H42 hC2 st5.ext
      have hC3 := stab_code H39 H42 hC3 st5.ext
      have hp42 := hp39.sameT st5
      clear st5 hT39 hp39 ht5 ht2
      refine ⟨_, rfl, _, rfl, o1, o2, z, z, _, _, _, _, rfl, hC1, hC2, hz3, hT42, fun n => absurd rfl n, fun _ => ⟨g5.s, g8.s, g5.len, g8.len, g5.pos, g8.pos, fun o4 H43 st43 hC4 _ => ?_, fun q => absurd q (by omega)⟩⟩
      have hlen : (rowsMade (sbt (wheelR z.length 5) (wheelR z.length 8) (TL.tl z)) (TL.tl z) (turns (sst (wheelR z.length 5) (wheelR z.length 8) (TL.tl z)) (TL.tl z) [Sum.inl 0, Sum.inl 0] 40).1 (turns (sst (wheelR z.length 5) (wheelR z.length 8) (TL.tl z)) (TL.tl z) [Sum.inl 0, Sum.inl 0] 40).2).length = 40 := by
        have := (made_lens (bt := sbt (wheelR z.length 5) (wheelR z.length 8) (TL.tl z)) (en := sen (List.replicate 5 0) (List.replicate 8 0)) (Nat.le_of_eq h58)).1
        rw [List.length_map] at this
        rw [← this]
        exact h58
      obtain ⟨dx4, R4, E4, ho4, _⟩ := id hC4
      have hT43 := st43.tab
      have hC1 := stab_code H42 H43 hC1 st43.ext
      have hC3 := stab_code H42 H43 hC3 st43.ext
      have hp43 := hp42.sameT st43
      refine ⟨o4, dx4, _, rfl, ho4, o4, z, _, _, rfl, hC4, fun H44 s44 => ⟨_, rfl, by rw [hlen]; decide, ?_⟩⟩
      rw [hlen]
      have hT44 : TabsN NT H44 := hT43.ext fun b o e => s44 b o e
      have hC1 := hC1.same s44
      have hC3 := hC3.same s44
      have hp44 := hp43.same s44
      clear s44 st43 hT42 hT43 hp42 hp43 hC4 ho4 hC2 hlen
      refine ⟨rfl, ?_⟩
      refine ⟨false, rfl, ?_⟩
      show (if false = true then _ else _)
      rw [if_neg (by decide)]
      refine ⟨hT44, fun fm44 c144 H44a eN back Ta nf hfm hc1 => ?_⟩
      have sta : SameT NT H44 H44a := ⟨eN, back, Ta⟩
      refine fun cs hcap hcn => ?_
      have hcap0 := cap_of (scope := lamScope l_law_l4) (fr := R_law_l4) (js := [11, 14]) hcap (cells_free nc_law_l4) nr_law_l4 rfl
      have FA := fv_of_lok cxok (lok_ask4 (P := P) (w := w) (K := K) (mg := mg) (base := base) (NT := NT) (C := C) (CV := CV) (CU := CU) (CT := CT) (fg := fm44) (c' := c144) (cl := _) (q := Q_law ++ "<lambda>") (o1 := o1) (o2 := o3) T.msummed T.ksummed Gsummed bsummed hz3 (SumOut.many rfl g5.s g9.s g5.len g9.len g5.pos g9.pos h59)) hcap0
      have FA2 := FA.imp (S' := fun H => HeldL fm44 (LF l_law_l4 (Q_law ++ "<lambda>") (cloFrom (cxOf (L2.CX P w) P w K mg base N_law "law" (defScope s_law) f (.ref cL) A outer s H E).env.cells (lamScope l_law_l4).names []) c144) (lamBody l_law_l4) cs H ∧ CodeAt K C H o1 z (wheelR z.length 5) (List.replicate 5 0) ∧ CodeAt K C H o3 z (wheelR z.length 9) (List.replicate 9 0)) (sp' := spAsk NT CV CU CT (.many)) (fun H h => h.1) (fun vs H Q E h q => ⟨rfl, (h.2.1).hid h.1.cells, (h.2.2).hid h.1.cells, ask_hid hcap.data h.1.cells q⟩)
      refine ⟨fm44, _, .many, rfl, FA2, ⟨⟨shw_keep hcn hfm, shw_keep hcn hc1, held_shw⟩, (stab_code H44 H44a hC1 sta.ext).shw hcn, (stab_code H44 H44a hC3 sta.ext).shw hcn⟩, Ta.ext fun b o e => shw_keep hcn e, fun t H5h st5 ht => ?_⟩
      obtain ⟨hc5, st5⟩ := sameT_hid hcap.data hcn st5
      have ht5 := tup_hid hc5 ht
      refine ⟨hc5, ?_⟩
      generalize hid cs H5h = H44b at st5 ht5 ⊢
      have st5 := sta.trans st5
      clear FA2 FA hcap0 ht hc5 hcap hcn sta hfm hc1 Ta nf back eN
      refine ⟨by show 2 ≤ sizeLine; decide, fun t2 ht2 => ?_⟩
      refine not_left (K := K) (out := .many) ht5 ht2 ?_
      have st5 := st5.trans (SameT.of (same_new (o := .tup (outV (.many))) ht2) st5.tab)
      generalize L2.upd H44b t2 (.tup (outV (.many))) = H47 at st5 ⊢
      refine ⟨_, rfl, ?_⟩
      show (if false = true then _ else _)
      rw [if_neg (by decide)]
      exact ⟨_, _, _, _, _, _, _, _, _, _, _, _, _, _, _, _, _, rfl, (hp44.sameT st5).mono (by omega), st5.tab⟩
    · rintro σ H2 ⟨v2, v3, v4, v5, v6, v7, v8, v9, v10, v11, v12, v13, v14, v15, v16, v17, v18, rfl, hp2, hT2⟩
      exact k H2
end
end Vf
set_option Elab.async false
set_option linter.all false
set_option maxRecDepth 100000
set_option maxHeartbeats 4000000
namespace Vf
open PySem L2 PyProof.Rows
open NdefX LamX
abbrev nts (pM pTi pTr pSu pSR pFR pWR pLaw : Addr) : List NTab := [(pM, fun _ _ => Q_made ++ "goal"), (pTi, nm_times), (pTr, nm_translated), (pSu, nm_summed), (pSR, fun _ _ => Q_sumr ++ "<lambda>"), (pFR, fun _ _ => Q_factor ++ "<lambda>"), (pWR, fun _ _ => Q_words ++ "<lambda>"), (pLaw, fun _ _ => Q_law ++ "<lambda>")]
theorem all_at {l : PySem.W.OpenLaw} {w : World} {K : PySem.W.Frag} {h : Heap} {mg : Str → Option Value} {fa fD fP fB fPen fLe fCo fCn fMa fW fLL fOr fIR fCa fWh fCS fSP fX fM fTi fTr fSu fSR fFR fWR fLaw fI fLn fLen fCL fR fV fBC fT C CV CB CT CU B cM pM cTi pTi cTr pTr cSu pSu cSR pSR cFR pFR cWR pWR cLaw pLaw : Addr}
    {odD anD : Option Addr} {slD : Array (Option Value)} {ocD kVD dcD pmD ctD : Value} {cdD : Value}
    {odP anP : Option Addr} {slP : Array (Option Value)} {ocP kVP dcP pmP ctP : Value} {cdP : Value}
    {odB anB : Option Addr} {slB : Array (Option Value)} {ocB kVB dcB pmB ctB : Value} {cdB : Value}
    {odPen anPen : Option Addr} {slPen : Array (Option Value)} {ocPen kVPen dcPen pmPen ctPen : Value} {cdPen : Value}
    {odLe anLe : Option Addr} {slLe : Array (Option Value)} {ocLe kVLe dcLe pmLe ctLe : Value} {cdLe : Value}
    {odCo anCo : Option Addr} {slCo : Array (Option Value)} {ocCo kVCo dcCo pmCo ctCo : Value} {cdCo : Value}
    {odCn anCn : Option Addr} {slCn : Array (Option Value)} {ocCn kVCn dcCn pmCn ctCn : Value} {cdCn : Value}
    {odMa anMa : Option Addr} {slMa : Array (Option Value)} {ocMa kVMa dcMa pmMa ctMa : Value} {cdMa : Value}
    {odW anW : Option Addr} {slW : Array (Option Value)} {ocW kVW dcW pmW ctW : Value} {cdW : Value}
    {odLL anLL : Option Addr} {slLL : Array (Option Value)} {ocLL kVLL dcLL pmLL ctLL : Value} {cdLL : Value}
    {odOr anOr : Option Addr} {slOr : Array (Option Value)} {ocOr kVOr dcOr pmOr ctOr : Value} {cdOr : Value}
    {odIR anIR : Option Addr} {slIR : Array (Option Value)} {ocIR kVIR dcIR pmIR ctIR : Value} {cdIR : Value}
    {odCa anCa : Option Addr} {slCa : Array (Option Value)} {ocCa kVCa dcCa pmCa ctCa : Value} {cdCa : Value}
    {odWh anWh : Option Addr} {slWh : Array (Option Value)} {ocWh kVWh dcWh pmWh ctWh : Value} {cdWh : Value}
    {odCS anCS : Option Addr} {slCS : Array (Option Value)} {ocCS kVCS dcCS pmCS ctCS : Value} {cdCS : Value}
    {odSP anSP : Option Addr} {slSP : Array (Option Value)} {ocSP kVSP dcSP pmSP ctSP : Value} {cdSP : Value}
    {odX anX : Option Addr} {slX : Array (Option Value)} {ocX kVX dcX pmX ctX : Value} {cdX : Value}
    {odM anM : Option Addr} {slM : Array (Option Value)} {ocM kVM dcM pmM ctM : Value}
    {ooM : Option Addr} {osM : Array (Option Value)} {vsM : Array Value}
    {odTi anTi : Option Addr} {slTi : Array (Option Value)} {ocTi kVTi dcTi pmTi ctTi : Value}
    {ooTi : Option Addr} {osTi : Array (Option Value)} {vsTi : Array Value}
    {odTr anTr : Option Addr} {slTr : Array (Option Value)} {ocTr kVTr dcTr pmTr ctTr : Value}
    {ooTr : Option Addr} {osTr : Array (Option Value)} {vsTr : Array Value}
    {odSu anSu : Option Addr} {slSu : Array (Option Value)} {ocSu kVSu dcSu pmSu ctSu : Value}
    {ooSu : Option Addr} {osSu : Array (Option Value)} {vsSu : Array Value}
    {odSR anSR : Option Addr} {slSR : Array (Option Value)} {ocSR kVSR dcSR pmSR ctSR : Value}
    {ooSR : Option Addr} {osSR : Array (Option Value)} {vsSR : Array Value}
    {odFR anFR : Option Addr} {slFR : Array (Option Value)} {ocFR kVFR dcFR pmFR ctFR : Value}
    {ooFR : Option Addr} {osFR : Array (Option Value)} {vsFR : Array Value}
    {odWR anWR : Option Addr} {slWR : Array (Option Value)} {ocWR kVWR dcWR pmWR ctWR : Value}
    {ooWR : Option Addr} {osWR : Array (Option Value)} {vsWR : Array Value}
    {odLaw anLaw : Option Addr} {slLaw : Array (Option Value)} {ocLaw kVLaw dcLaw pmLaw ctLaw : Value}
    {ooLaw : Option Addr} {osLaw : Array (Option Value)} {vsLaw : Array Value}
    {odI anI : Option Addr} {slI : Array (Option Value)} {ocI kVI dcI pmI ctI : Value} {cdI : Value}
    {odLn anLn : Option Addr} {slLn : Array (Option Value)} {ocLn kVLn dcLn pmLn ctLn : Value} {cdLn : Value}
    {odLen anLen : Option Addr} {slLen : Array (Option Value)} {ocLen kVLen dcLen pmLen ctLen : Value} {cdLen : Value}
    {odCL anCL : Option Addr} {slCL : Array (Option Value)} {ocCL kVCL dcCL pmCL ctCL : Value} {cdCL : Value}
    {odR anR : Option Addr} {slR : Array (Option Value)} {ocR kVR dcR pmR ctR : Value} {cdR : Value}
    {odV anV : Option Addr} {slV : Array (Option Value)} {ocV kVV dcV pmV ctV : Value} {cdV : Value}
    {odBC anBC : Option Addr} {slBC : Array (Option Value)} {ocBC kVBC dcBC pmBC ctBC : Value} {cdBC : Value}
    {odT anT : Option Addr} {slT : Array (Option Value)} {ocT kVT dcT pmT ctT : Value} {cdT : Value}
    {evnm evq : Str} {evN : Addr} {evbs : List Value} {evsn : List Str} {evsub : List Value} {evab : Bool} {evcol : Option Bool} {evdd : Option Addr} {evm0 evm1 evm2 evm3 evm5 : Option Value}
    {ebnm ebq : Str} {ebN : Addr} {ebbs : List Value} {ebsn : List Str} {ebsub : List Value} {ebab : Bool} {ebcol : Option Bool} {ebdd : Option Addr} {ebm0 ebm1 ebm2 ebm3 ebm5 : Option Value}
    {etnm etq : Str} {etN : Addr} {etbs : List Value} {etsn : List Str} {etsub : List Value} {etab : Bool} {etcol : Option Bool} {etdd : Option Addr} {etm0 etm1 etm2 etm3 etm5 : Option Value}
    (X : K.In h) (G : h.Ns mainGlobals mg) (hfa : mg "law" = some (.ref fa))
    (aD : PySem.W.nsIn K mainGlobals "_law_draw" = some (some (.ref fD)))
    (lD : K.lookup fD = some ⟨ocD, odD, .func (PySem.W.fnOf "_law_draw" "_law_draw" (defArgs s__law_draw) (defBody s__law_draw) (defScope s__law_draw) .none kVD dcD pmD anD cdD ctD), slD⟩) (cD : PySem.W.codeIn K cdD "_law_draw" = true) (kD : PySem.W.keepIn K (.ref fD) = true)
    (aP : PySem.W.nsIn K mainGlobals "_law_pick" = some (some (.ref fP)))
    (lP : K.lookup fP = some ⟨ocP, odP, .func (PySem.W.fnOf "_law_pick" "_law_pick" (defArgs s__law_pick) (defBody s__law_pick) (defScope s__law_pick) .none kVP dcP pmP anP cdP ctP), slP⟩) (cP : PySem.W.codeIn K cdP "_law_pick" = true) (kP : PySem.W.keepIn K (.ref fP) = true)
    (aB : PySem.W.nsIn K mainGlobals "_law_bits" = some (some (.ref fB)))
    (lB : K.lookup fB = some ⟨ocB, odB, .func (PySem.W.fnOf "_law_bits" "_law_bits" (defArgs s__law_bits) (defBody s__law_bits) (defScope s__law_bits) .none kVB dcB pmB anB cdB ctB), slB⟩) (cB : PySem.W.codeIn K cdB "_law_bits" = true) (kB : PySem.W.keepIn K (.ref fB) = true)
    (aPen : PySem.W.nsIn K mainGlobals "_law_pen" = some (some (.ref fPen)))
    (lPen : K.lookup fPen = some ⟨ocPen, odPen, .func (PySem.W.fnOf "_law_pen" "_law_pen" (defArgs s__law_pen) (defBody s__law_pen) (defScope s__law_pen) .none kVPen dcPen pmPen anPen cdPen ctPen), slPen⟩) (cPen : PySem.W.codeIn K cdPen "_law_pen" = true) (kPen : PySem.W.keepIn K (.ref fPen) = true)
    (aLe : PySem.W.nsIn K mainGlobals "_law_letters" = some (some (.ref fLe)))
    (lLe : K.lookup fLe = some ⟨ocLe, odLe, .func (PySem.W.fnOf "_law_letters" "_law_letters" (defArgs s__law_letters) (defBody s__law_letters) (defScope s__law_letters) .none kVLe dcLe pmLe anLe cdLe ctLe), slLe⟩) (cLe : PySem.W.codeIn K cdLe "_law_letters" = true) (kLe : PySem.W.keepIn K (.ref fLe) = true)
    (aCo : PySem.W.nsIn K mainGlobals "_law_code" = some (some (.ref fCo)))
    (lCo : K.lookup fCo = some ⟨ocCo, odCo, .func (PySem.W.fnOf "_law_code" "_law_code" (defArgs s__law_code) (defBody s__law_code) (defScope s__law_code) .none kVCo dcCo pmCo anCo cdCo ctCo), slCo⟩) (cCo : PySem.W.codeIn K cdCo "_law_code" = true) (kCo : PySem.W.keepIn K (.ref fCo) = true)
    (aCn : PySem.W.nsIn K mainGlobals "_law_column" = some (some (.ref fCn)))
    (lCn : K.lookup fCn = some ⟨ocCn, odCn, .func (PySem.W.fnOf "_law_column" "_law_column" (defArgs s__law_column) (defBody s__law_column) (defScope s__law_column) .none kVCn dcCn pmCn anCn cdCn ctCn), slCn⟩) (cCn : PySem.W.codeIn K cdCn "_law_column" = true) (kCn : PySem.W.keepIn K (.ref fCn) = true)
    (aMa : PySem.W.nsIn K mainGlobals "_law_made_code" = some (some (.ref fMa)))
    (lMa : K.lookup fMa = some ⟨ocMa, odMa, .func (PySem.W.fnOf "_law_made_code" "_law_made_code" (defArgs s__law_made_code) (defBody s__law_made_code) (defScope s__law_made_code) .none kVMa dcMa pmMa anMa cdMa ctMa), slMa⟩) (cMa : PySem.W.codeIn K cdMa "_law_made_code" = true) (kMa : PySem.W.keepIn K (.ref fMa) = true)
    (aW : PySem.W.nsIn K mainGlobals "_law_walk" = some (some (.ref fW)))
    (lW : K.lookup fW = some ⟨ocW, odW, .func (PySem.W.fnOf "_law_walk" "_law_walk" (defArgs s__law_walk) (defBody s__law_walk) (defScope s__law_walk) .none kVW dcW pmW anW cdW ctW), slW⟩) (cW : PySem.W.codeIn K cdW "_law_walk" = true) (kW : PySem.W.keepIn K (.ref fW) = true)
    (aLL : PySem.W.nsIn K mainGlobals "_law_length" = some (some (.ref fLL)))
    (lLL : K.lookup fLL = some ⟨ocLL, odLL, .func (PySem.W.fnOf "_law_length" "_law_length" (defArgs s__law_length) (defBody s__law_length) (defScope s__law_length) .none kVLL dcLL pmLL anLL cdLL ctLL), slLL⟩) (cLL : PySem.W.codeIn K cdLL "_law_length" = true) (kLL : PySem.W.keepIn K (.ref fLL) = true)
    (aOr : PySem.W.nsIn K mainGlobals "_law_order" = some (some (.ref fOr)))
    (lOr : K.lookup fOr = some ⟨ocOr, odOr, .func (PySem.W.fnOf "_law_order" "_law_order" (defArgs s__law_order) (defBody s__law_order) (defScope s__law_order) .none kVOr dcOr pmOr anOr cdOr ctOr), slOr⟩) (cOr : PySem.W.codeIn K cdOr "_law_order" = true) (kOr : PySem.W.keepIn K (.ref fOr) = true)
    (aIR : PySem.W.nsIn K mainGlobals "_law_is_right" = some (some (.ref fIR)))
    (lIR : K.lookup fIR = some ⟨ocIR, odIR, .func (PySem.W.fnOf "_law_is_right" "_law_is_right" (defArgs s__law_is_right) (defBody s__law_is_right) (defScope s__law_is_right) .none kVIR dcIR pmIR anIR cdIR ctIR), slIR⟩) (cIR : PySem.W.codeIn K cdIR "_law_is_right" = true) (kIR : PySem.W.keepIn K (.ref fIR) = true)
    (aCa : PySem.W.nsIn K mainGlobals "_law_caught" = some (some (.ref fCa)))
    (lCa : K.lookup fCa = some ⟨ocCa, odCa, .func (PySem.W.fnOf "_law_caught" "_law_caught" (defArgs s__law_caught) (defBody s__law_caught) (defScope s__law_caught) .none kVCa dcCa pmCa anCa cdCa ctCa), slCa⟩) (cCa : PySem.W.codeIn K cdCa "_law_caught" = true) (kCa : PySem.W.keepIn K (.ref fCa) = true)
    (aWh : PySem.W.nsIn K mainGlobals "_law_wheel" = some (some (.ref fWh)))
    (lWh : K.lookup fWh = some ⟨ocWh, odWh, .func (PySem.W.fnOf "_law_wheel" "_law_wheel" (defArgs s__law_wheel) (defBody s__law_wheel) (defScope s__law_wheel) .none kVWh dcWh pmWh anWh cdWh ctWh), slWh⟩) (cWh : PySem.W.codeIn K cdWh "_law_wheel" = true) (kWh : PySem.W.keepIn K (.ref fWh) = true)
    (aCS : PySem.W.nsIn K mainGlobals "check_states" = some (some (.ref fCS)))
    (lCS : K.lookup fCS = some ⟨ocCS, odCS, .func (PySem.W.fnOf "check_states" "check_states" (defArgs s_check_states) (defBody s_check_states) (defScope s_check_states) .none kVCS dcCS pmCS anCS cdCS ctCS), slCS⟩) (cCS : PySem.W.codeIn K cdCS "check_states" = true) (kCS : PySem.W.keepIn K (.ref fCS) = true)
    (aSP : PySem.W.nsIn K mainGlobals "strange_place" = some (some (.ref fSP)))
    (lSP : K.lookup fSP = some ⟨ocSP, odSP, .func (PySem.W.fnOf "strange_place" "strange_place" (defArgs s_strange_place) (defBody s_strange_place) (defScope s_strange_place) .none kVSP dcSP pmSP anSP cdSP ctSP), slSP⟩) (cSP : PySem.W.codeIn K cdSP "strange_place" = true) (kSP : PySem.W.keepIn K (.ref fSP) = true)
    (aX : PySem.W.nsIn K mainGlobals "explored" = some (some (.ref fX)))
    (lX : K.lookup fX = some ⟨ocX, odX, .func (PySem.W.fnOf "explored" "explored" (defArgs s_explored) (defBody s_explored) (defScope s_explored) .none kVX dcX pmX anX cdX ctX), slX⟩) (cX : PySem.W.codeIn K cdX "explored" = true) (kX : PySem.W.keepIn K (.ref fX) = true)
    (aM : PySem.W.nsIn K mainGlobals "made" = some (some (.ref fM)))
    (lM : K.lookup fM = some ⟨ocM, odM, .func (PySem.W.fnOf "made" "made" (defArgs s_made) (defBody s_made) (defScope s_made) .none kVM dcM pmM anM (.ref cM) ctM), slM⟩) (chM : PySem.W.codeIn K (.ref cM) "made" = true) (kM : PySem.W.keepIn K (.ref fM) = true)
    (oM : K.lookup cM = some ⟨.type "code", ooM, .fields vsM, osM⟩) (eM : vsM[11]? = some (.ref pM)) (qM : PySem.W.codeHdIn K cM pM = true) (nM : K.lookup pM = none) (tM : h.get? pM = some { cls := .none, data := .fields #[] })
    (aTi : PySem.W.nsIn K mainGlobals "times" = some (some (.ref fTi)))
    (lTi : K.lookup fTi = some ⟨ocTi, odTi, .func (PySem.W.fnOf "times" "times" (defArgs s_times) (defBody s_times) (defScope s_times) .none kVTi dcTi pmTi anTi (.ref cTi) ctTi), slTi⟩) (chTi : PySem.W.codeIn K (.ref cTi) "times" = true) (kTi : PySem.W.keepIn K (.ref fTi) = true)
    (oTi : K.lookup cTi = some ⟨.type "code", ooTi, .fields vsTi, osTi⟩) (eTi : vsTi[11]? = some (.ref pTi)) (qTi : PySem.W.codeHdIn K cTi pTi = true) (nTi : K.lookup pTi = none) (tTi : h.get? pTi = some { cls := .none, data := .fields #[] })
    (aTr : PySem.W.nsIn K mainGlobals "translated" = some (some (.ref fTr)))
    (lTr : K.lookup fTr = some ⟨ocTr, odTr, .func (PySem.W.fnOf "translated" "translated" (defArgs s_translated) (defBody s_translated) (defScope s_translated) .none kVTr dcTr pmTr anTr (.ref cTr) ctTr), slTr⟩) (chTr : PySem.W.codeIn K (.ref cTr) "translated" = true) (kTr : PySem.W.keepIn K (.ref fTr) = true)
    (oTr : K.lookup cTr = some ⟨.type "code", ooTr, .fields vsTr, osTr⟩) (eTr : vsTr[11]? = some (.ref pTr)) (qTr : PySem.W.codeHdIn K cTr pTr = true) (nTr : K.lookup pTr = none) (tTr : h.get? pTr = some { cls := .none, data := .fields #[] })
    (aSu : PySem.W.nsIn K mainGlobals "summed" = some (some (.ref fSu)))
    (lSu : K.lookup fSu = some ⟨ocSu, odSu, .func (PySem.W.fnOf "summed" "summed" (defArgs s_summed) (defBody s_summed) (defScope s_summed) .none kVSu dcSu pmSu anSu (.ref cSu) ctSu), slSu⟩) (chSu : PySem.W.codeIn K (.ref cSu) "summed" = true) (kSu : PySem.W.keepIn K (.ref fSu) = true)
    (oSu : K.lookup cSu = some ⟨.type "code", ooSu, .fields vsSu, osSu⟩) (eSu : vsSu[11]? = some (.ref pSu)) (qSu : PySem.W.codeHdIn K cSu pSu = true) (nSu : K.lookup pSu = none) (tSu : h.get? pSu = some { cls := .none, data := .fields #[] })
    (aSR : PySem.W.nsIn K mainGlobals "_law_is_sum_right" = some (some (.ref fSR)))
    (lSR : K.lookup fSR = some ⟨ocSR, odSR, .func (PySem.W.fnOf "_law_is_sum_right" "_law_is_sum_right" (defArgs s__law_is_sum_right) (defBody s__law_is_sum_right) (defScope s__law_is_sum_right) .none kVSR dcSR pmSR anSR (.ref cSR) ctSR), slSR⟩) (chSR : PySem.W.codeIn K (.ref cSR) "_law_is_sum_right" = true) (kSR : PySem.W.keepIn K (.ref fSR) = true)
    (oSR : K.lookup cSR = some ⟨.type "code", ooSR, .fields vsSR, osSR⟩) (eSR : vsSR[11]? = some (.ref pSR)) (qSR : PySem.W.codeHdIn K cSR pSR = true) (nSR : K.lookup pSR = none) (tSR : h.get? pSR = some { cls := .none, data := .fields #[] })
    (aFR : PySem.W.nsIn K mainGlobals "_law_is_factor_right" = some (some (.ref fFR)))
    (lFR : K.lookup fFR = some ⟨ocFR, odFR, .func (PySem.W.fnOf "_law_is_factor_right" "_law_is_factor_right" (defArgs s__law_is_factor_right) (defBody s__law_is_factor_right) (defScope s__law_is_factor_right) .none kVFR dcFR pmFR anFR (.ref cFR) ctFR), slFR⟩) (chFR : PySem.W.codeIn K (.ref cFR) "_law_is_factor_right" = true) (kFR : PySem.W.keepIn K (.ref fFR) = true)
    (oFR : K.lookup cFR = some ⟨.type "code", ooFR, .fields vsFR, osFR⟩) (eFR : vsFR[11]? = some (.ref pFR)) (qFR : PySem.W.codeHdIn K cFR pFR = true) (nFR : K.lookup pFR = none) (tFR : h.get? pFR = some { cls := .none, data := .fields #[] })
    (aWR : PySem.W.nsIn K mainGlobals "_law_are_words_right" = some (some (.ref fWR)))
    (lWR : K.lookup fWR = some ⟨ocWR, odWR, .func (PySem.W.fnOf "_law_are_words_right" "_law_are_words_right" (defArgs s__law_are_words_right) (defBody s__law_are_words_right) (defScope s__law_are_words_right) .none kVWR dcWR pmWR anWR (.ref cWR) ctWR), slWR⟩) (chWR : PySem.W.codeIn K (.ref cWR) "_law_are_words_right" = true) (kWR : PySem.W.keepIn K (.ref fWR) = true)
    (oWR : K.lookup cWR = some ⟨.type "code", ooWR, .fields vsWR, osWR⟩) (eWR : vsWR[11]? = some (.ref pWR)) (qWR : PySem.W.codeHdIn K cWR pWR = true) (nWR : K.lookup pWR = none) (tWR : h.get? pWR = some { cls := .none, data := .fields #[] })
    (aLaw : PySem.W.nsIn K mainGlobals "law" = some (some (.ref fLaw)))
    (lLaw : K.lookup fLaw = some ⟨ocLaw, odLaw, .func (PySem.W.fnOf "law" "law" (defArgs s_law) (defBody s_law) (defScope s_law) .none kVLaw dcLaw pmLaw anLaw (.ref cLaw) ctLaw), slLaw⟩) (chLaw : PySem.W.codeIn K (.ref cLaw) "law" = true) (kLaw : PySem.W.keepIn K (.ref fLaw) = true)
    (oLaw : K.lookup cLaw = some ⟨.type "code", ooLaw, .fields vsLaw, osLaw⟩) (eLaw : vsLaw[11]? = some (.ref pLaw)) (qLaw : PySem.W.codeHdIn K cLaw pLaw = true) (nLaw : K.lookup pLaw = none) (tLaw : h.get? pLaw = some { cls := .none, data := .fields #[] })
    (aI : PySem.W.findIn K (.ref C) "__init__" = some (some (.ref fI))) (iI : PySem.W.isFn K (.ref fI) = true)
    (lI : K.lookup fI = some ⟨ocI, odI, .func (PySem.W.fnOf "__init__" "Code.__init__" (defArgs s_Code___init__) (defBody s_Code___init__) (defScope s_Code___init__) .none kVI dcI pmI anI cdI ctI), slI⟩) (cI : PySem.W.codeIn K cdI "Code.__init__" = true) (kI : PySem.W.keepIn K (.ref fI) = true)
    (aLn : PySem.W.findIn K (.ref C) "__len__" = some (some (.ref fLn))) (iLn : PySem.W.isFn K (.ref fLn) = true)
    (lLn : K.lookup fLn = some ⟨ocLn, odLn, .func (PySem.W.fnOf "__len__" "Code.__len__" (defArgs s_Code___len__) (defBody s_Code___len__) (defScope s_Code___len__) .none kVLn dcLn pmLn anLn cdLn ctLn), slLn⟩) (cLn : PySem.W.codeIn K cdLn "Code.__len__" = true) (kLn : PySem.W.keepIn K (.ref fLn) = true)
    (aLen : PySem.W.findIn K (.ref C) "length" = some (some (.ref fLen))) (iLen : PySem.W.isFn K (.ref fLen) = true)
    (lLen : K.lookup fLen = some ⟨ocLen, odLen, .func (PySem.W.fnOf "length" "Code.length" (defArgs s_Code_length) (defBody s_Code_length) (defScope s_Code_length) .none kVLen dcLen pmLen anLen cdLen ctLen), slLen⟩) (cLen : PySem.W.codeIn K cdLen "Code.length" = true) (kLen : PySem.W.keepIn K (.ref fLen) = true)
    (aCL : PySem.W.findIn K (.ref C) "check_letters" = some (some (.ref fCL))) (iCL : PySem.W.isFn K (.ref fCL) = true)
    (lCL : K.lookup fCL = some ⟨ocCL, odCL, .func (PySem.W.fnOf "check_letters" "Code.check_letters" (defArgs s_Code_check_letters) (defBody s_Code_check_letters) (defScope s_Code_check_letters) .none kVCL dcCL pmCL anCL cdCL ctCL), slCL⟩) (cCL : PySem.W.codeIn K cdCL "Code.check_letters" = true) (kCL : PySem.W.keepIn K (.ref fCL) = true)
    (aR : PySem.W.findIn K (.ref C) "run" = some (some (.ref fR))) (iR : PySem.W.isFn K (.ref fR) = true)
    (lR : K.lookup fR = some ⟨ocR, odR, .func (PySem.W.fnOf "run" "Code.run" (defArgs s_Code_run) (defBody s_Code_run) (defScope s_Code_run) .none kVR dcR pmR anR cdR ctR), slR⟩) (cR : PySem.W.codeIn K cdR "Code.run" = true) (kR : PySem.W.keepIn K (.ref fR) = true)
    (aV : PySem.W.findIn K (.ref CV) "__init__" = some (some (.ref fV))) (iV : PySem.W.isFn K (.ref fV) = true)
    (lV : K.lookup fV = some ⟨ocV, odV, .func (PySem.W.fnOf "__init__" "BadValue.__init__" (defArgs s_BadValue___init__) (defBody s_BadValue___init__) (defScope s_BadValue___init__) .none kVV dcV pmV anV cdV ctV), slV⟩) (cV : PySem.W.codeIn K cdV "BadValue.__init__" = true) (kV : PySem.W.keepIn K (.ref fV) = true)
    (aBC : PySem.W.findIn K (.ref CB) "__init__" = some (some (.ref fBC))) (iBC : PySem.W.isFn K (.ref fBC) = true)
    (lBC : K.lookup fBC = some ⟨ocBC, odBC, .func (PySem.W.fnOf "__init__" "BadCode.__init__" (defArgs s_BadCode___init__) (defBody s_BadCode___init__) (defScope s_BadCode___init__) .none kVBC dcBC pmBC anBC cdBC ctBC), slBC⟩) (cBC : PySem.W.codeIn K cdBC "BadCode.__init__" = true) (kBC : PySem.W.keepIn K (.ref fBC) = true)
    (aT : PySem.W.findIn K (.ref CT) "__init__" = some (some (.ref fT))) (iT : PySem.W.isFn K (.ref fT) = true)
    (lT : K.lookup fT = some ⟨ocT, odT, .func (PySem.W.fnOf "__init__" "TooMany.__init__" (defArgs s_TooMany___init__) (defBody s_TooMany___init__) (defScope s_TooMany___init__) .none kVT dcT pmT anT cdT ctT), slT⟩) (cT : PySem.W.codeIn K cdT "TooMany.__init__" = true) (kT : PySem.W.keepIn K (.ref fT) = true)
    (dMTi : pM ≠ pTi)
    (dMTr : pM ≠ pTr)
    (dTiTr : pTi ≠ pTr)
    (dMSu : pM ≠ pSu)
    (dTiSu : pTi ≠ pSu)
    (dTrSu : pTr ≠ pSu)
    (dMSR : pM ≠ pSR)
    (dTiSR : pTi ≠ pSR)
    (dTrSR : pTr ≠ pSR)
    (dSuSR : pSu ≠ pSR)
    (dMFR : pM ≠ pFR)
    (dTiFR : pTi ≠ pFR)
    (dTrFR : pTr ≠ pFR)
    (dSuFR : pSu ≠ pFR)
    (dSRFR : pSR ≠ pFR)
    (dMWR : pM ≠ pWR)
    (dTiWR : pTi ≠ pWR)
    (dTrWR : pTr ≠ pWR)
    (dSuWR : pSu ≠ pWR)
    (dSRWR : pSR ≠ pWR)
    (dFRWR : pFR ≠ pWR)
    (dMLaw : pM ≠ pLaw)
    (dTiLaw : pTi ≠ pLaw)
    (dTrLaw : pTr ≠ pLaw)
    (dSuLaw : pSu ≠ pLaw)
    (dSRLaw : pSR ≠ pLaw)
    (dFRLaw : pFR ≠ pLaw)
    (dWRLaw : pWR ≠ pLaw)
    (z_int : PySem.W.nsIn K mainGlobals "int" = some none)
    (z_len : PySem.W.nsIn K mainGlobals "len" = some none)
    (z_list : PySem.W.nsIn K mainGlobals "list" = some none)
    (z_range : PySem.W.nsIn K mainGlobals "range" = some none)
    (z_sorted : PySem.W.nsIn K mainGlobals "sorted" = some none)
    (z_any : PySem.W.nsIn K mainGlobals "any" = some none)
    (z_tuple : PySem.W.nsIn K mainGlobals "tuple" = some none)
    (z_enumerate : PySem.W.nsIn K mainGlobals "enumerate" = some none)
    (z_min : PySem.W.nsIn K mainGlobals "min" = some none)
    (z_dict : PySem.W.nsIn K mainGlobals "dict" = some none)
    (z_zip : PySem.W.nsIn K mainGlobals "zip" = some none)
    (ms : ∃ t, mg "MOST_STATES" = some (.int 40 t))
    (cC : PySem.W.nsIn K mainGlobals "Code" = some (some (.ref C))) (cpg : PySem.W.plainGet K C Str.empty = true) (chd : PySem.W.hasDictIn K C = true) (cpo : PySem.W.plainOver K C = true) (csa : PySem.W.findIn K (.ref C) "__setattr__" = some (some (.builtin "object.__setattr__"))) (cmk : PySem.W.makesIn K C = true) (ckc : PySem.W.keepIn K (.ref C) = true)
    (cnL : PySem.W.findIn K (.ref C) "letters" = some none) (cnR : PySem.W.findIn K (.ref C) "rows" = some none) (cnE : PySem.W.findIn K (.ref C) "ends" = some none)
    (evC : PySem.W.nsIn K mainGlobals "BadValue" = some (some (.ref CV))) (evL : K.lookup CV = some (excClassObj evnm evq CV evN evbs [.ref B, .type "ValueError", .type "Exception", .type "BaseException", .type "object"] true evsn evsub evab evcol evdd evm0 evm1 evm2 evm3 evm5 "ValueError.__new__"))
    (evsa : PySem.W.findIn K (.ref CV) "__setattr__" = some (some (.builtin "object.__setattr__"))) (evex : PySem.W.subIn K (.ref CV) (.type "BaseException") = some true) (evty : PySem.W.typeIn K (.ref CV) = some (.type "type")) (evkc : PySem.W.keepIn K (.ref CV) = true)
    (evtI : PySem.W.typeIn K (.ref fV) = some (.type "function")) (evnf : PySem.W.findIn K (.ref CV) "place" = some none)
    (evga : PySem.W.findIn K (.ref CV) "__getattribute__" = some (some (.builtin "BaseException.__getattribute__"))) (evgg : PySem.W.findIn K (.ref CV) "__getattr__" = some none) (evhd : PySem.W.hasDictIn K CV = true) (evss : PySem.W.subIn K (.ref CV) (.ref CV) = some true)
    (ebC : PySem.W.nsIn K mainGlobals "BadCode" = some (some (.ref CB))) (ebL : K.lookup CB = some (excClassObj ebnm ebq CB ebN ebbs [.ref B, .type "ValueError", .type "Exception", .type "BaseException", .type "object"] true ebsn ebsub ebab ebcol ebdd ebm0 ebm1 ebm2 ebm3 ebm5 "ValueError.__new__"))
    (ebsa : PySem.W.findIn K (.ref CB) "__setattr__" = some (some (.builtin "object.__setattr__"))) (ebex : PySem.W.subIn K (.ref CB) (.type "BaseException") = some true) (ebty : PySem.W.typeIn K (.ref CB) = some (.type "type")) (ebkc : PySem.W.keepIn K (.ref CB) = true)
    (ebtI : PySem.W.typeIn K (.ref fBC) = some (.type "function")) (ebnf : PySem.W.findIn K (.ref CB) "state" = some none)
    (ebga : PySem.W.findIn K (.ref CB) "__getattribute__" = some (some (.builtin "BaseException.__getattribute__"))) (ebgg : PySem.W.findIn K (.ref CB) "__getattr__" = some none) (ebhd : PySem.W.hasDictIn K CB = true) (ebss : PySem.W.subIn K (.ref CB) (.ref CB) = some true)
    (etC : PySem.W.nsIn K mainGlobals "TooMany" = some (some (.ref CT))) (etL : K.lookup CT = some (excClassObj etnm etq CT etN etbs [.ref B, .type "ValueError", .type "Exception", .type "BaseException", .type "object"] true etsn etsub etab etcol etdd etm0 etm1 etm2 etm3 etm5 "ValueError.__new__"))
    (etsa : PySem.W.findIn K (.ref CT) "__setattr__" = some (some (.builtin "object.__setattr__"))) (etex : PySem.W.subIn K (.ref CT) (.type "BaseException") = some true) (etty : PySem.W.typeIn K (.ref CT) = some (.type "type")) (etkc : PySem.W.keepIn K (.ref CT) = true)
    (ettI : PySem.W.typeIn K (.ref fT) = some (.type "function")) (etnf : PySem.W.findIn K (.ref CT) "what" = some none)
    (etga : PySem.W.findIn K (.ref CT) "__getattribute__" = some (some (.builtin "BaseException.__getattribute__"))) (etgg : PySem.W.findIn K (.ref CT) "__getattr__" = some none) (ethd : PySem.W.hasDictIn K CT = true) (etss : PySem.W.subIn K (.ref CT) (.ref CT) = some true)
    (BC : PySem.W.nsIn K mainGlobals "CodeError" = some (some (.ref B))) (Bs0 : PySem.W.specialIn K (.ref B) "__getattribute__" = some (some (.builtin "type.__getattribute__"))) (Br : PySem.W.readsIn K B (.type "type") = true)
    (Bv : PySem.W.findCls K (.ref B) (.type "type") "__init__" = some (.val (.builtin "ValueError.__init__")))
    (euC : PySem.W.nsIn K mainGlobals "Unlike" = some (some (.ref CU))) (euq : PySem.W.excIn K CU [.type "ValueError", .type "Exception", .type "BaseException", .type "object"] "ValueError.__new__" = true) (eukc : PySem.W.keepIn K (.ref CU) = true) (euex : PySem.W.subIn K (.ref CU) (.type "BaseException") = some true) (euty : PySem.W.typeIn K (.ref CU) = some (.type "type")) (euhd : PySem.W.hasDictIn K CU = true)
    (euss : PySem.W.subIn K (.ref CU) (.ref CU) = some true) (euv : PySem.W.subIn K (.ref CU) (.ref CV) = some false) (etv : PySem.W.subIn K (.ref CT) (.ref CV) = some false) (etu : PySem.W.subIn K (.ref CT) (.ref CU) = some false) :
    LawAtS l w K (L2.CX l.prog w) 14 63 "_law_script" mg fa h := by
  have e := hfa.symm.trans (PySem.W.mg_of X G aLaw)
  cases e
  have FD := fun_mk (st := s__law_draw) lD cD kD
  have bD := FD.binds (ps := P__law_draw) fun _ _ _ _ _ _ us hl => match us, hl with | [_, _], _ => rfl
  have FP := fun_mk (st := s__law_pick) lP cP kP
  have bP := FP.binds (ps := P__law_pick) fun _ _ _ _ _ _ us hl => match us, hl with | [_, _], _ => rfl
  have FB := fun_mk (st := s__law_bits) lB cB kB
  have bB := FB.binds (ps := P__law_bits) fun _ _ _ _ _ _ us hl => match us, hl with | [_], _ => rfl
  have FPen := fun_mk (st := s__law_pen) lPen cPen kPen
  have bPen := FPen.binds (ps := P__law_pen) fun _ _ _ _ _ _ us hl => match us, hl with | [_], _ => rfl
  have FLe := fun_mk (st := s__law_letters) lLe cLe kLe
  have bLe := FLe.binds (ps := P__law_letters) fun _ _ _ _ _ _ us hl => match us, hl with | [_, _], _ => rfl
  have FCo := fun_mk (st := s__law_code) lCo cCo kCo
  have bCo := FCo.binds (ps := P__law_code) fun _ _ _ _ _ _ us hl => match us, hl with | [_, _, _], _ => rfl
  have FCn := fun_mk (st := s__law_column) lCn cCn kCn
  have bCn := FCn.binds (ps := P__law_column) fun _ _ _ _ _ _ us hl => match us, hl with | [_, _, _], _ => rfl
  have FMa := fun_mk (st := s__law_made_code) lMa cMa kMa
  have bMa := FMa.binds (ps := P__law_made_code) fun _ _ _ _ _ _ us hl => match us, hl with | [_], _ => rfl
  have FW := fun_mk (st := s__law_walk) lW cW kW
  have bW := FW.binds (ps := P__law_walk) fun _ _ _ _ _ _ us hl => match us, hl with | [_, _, _], _ => rfl
  have FLL := fun_mk (st := s__law_length) lLL cLL kLL
  have bLL := FLL.binds (ps := P__law_length) fun _ _ _ _ _ _ us hl => match us, hl with | [_, _], _ => rfl
  have FOr := fun_mk (st := s__law_order) lOr cOr kOr
  have bOr := FOr.binds (ps := P__law_order) fun _ _ _ _ _ _ us hl => match us, hl with | [_, _], _ => rfl
  have FIR := fun_mk (st := s__law_is_right) lIR cIR kIR
  have bIR := FIR.binds (ps := P__law_is_right) fun _ _ _ _ _ _ us hl => match us, hl with | [_, _, _, _, _], _ => rfl
  have FCa := fun_mk (st := s__law_caught) lCa cCa kCa
  have bCa := FCa.binds (ps := P__law_caught) fun _ _ _ _ _ _ us hl => match us, hl with | [_], _ => rfl
  have FWh := fun_mk (st := s__law_wheel) lWh cWh kWh
  have bWh := FWh.binds (ps := P__law_wheel) fun _ _ _ _ _ _ us hl => match us, hl with | [_, _], _ => rfl
  have FCS := fun_mk (st := s_check_states) lCS cCS kCS
  have bCS := FCS.binds (ps := P_check_states) fun _ _ _ _ _ _ us hl => match us, hl with | [_, _, _], _ => rfl
  have FSP := fun_mk (st := s_strange_place) lSP cSP kSP
  have bSP := FSP.binds (ps := P_strange_place) fun _ _ _ _ _ _ us hl => match us, hl with | [_, _], _ => rfl
  have FX := fun_mk (st := s_explored) lX cX kX
  have bX := FX.binds (ps := P_explored) fun _ _ _ _ _ _ us hl => match us, hl with | [_, _, _, _], _ => rfl
  have FM := funC_mk (st := s_made) lM chM kM
  have bM := FM.fun.binds (ps := P_made) fun _ _ _ _ _ _ us hl => match us, hl with | [_, _, _, _], _ => rfl
  have FTi := funC_mk (st := s_times) lTi chTi kTi
  have bTi := FTi.fun.binds (ps := P_times) fun _ _ _ _ _ _ us hl => match us, hl with | [_, _, _], _ => rfl
  have FTr := funC_mk (st := s_translated) lTr chTr kTr
  have bTr := FTr.fun.binds (ps := P_translated) fun _ _ _ _ _ _ us hl => match us, hl with | [_, _, _], _ => rfl
  have FSu := funC_mk (st := s_summed) lSu chSu kSu
  have bSu := FSu.fun.binds (ps := P_summed) fun _ _ _ _ _ _ us hl => match us, hl with | [_, _], _ => rfl
  have FSR := funC_mk (st := s__law_is_sum_right) lSR chSR kSR
  have bSR := FSR.fun.binds (ps := P__law_is_sum_right) fun _ _ _ _ _ _ us hl => match us, hl with | [_, _, _], _ => rfl
  have FFR := funC_mk (st := s__law_is_factor_right) lFR chFR kFR
  have bFR := FFR.fun.binds (ps := P__law_is_factor_right) fun _ _ _ _ _ _ us hl => match us, hl with | [_, _, _, _], _ => rfl
  have FWR := funC_mk (st := s__law_are_words_right) lWR chWR kWR
  have bWR := FWR.fun.binds (ps := P__law_are_words_right) fun _ _ _ _ _ _ us hl => match us, hl with | [_, _, _, _], _ => rfl
  have FLaw := funC_mk (st := s_law) lLaw chLaw kLaw
  have FI := fun_mk (st := s_Code___init__) lI cI kI
  have bI := FI.binds (ps := P_Code___init__) fun _ _ _ _ _ _ us hl => match us, hl with | [_, _, _, _], _ => rfl
  have FLn := fun_mk (st := s_Code___len__) lLn cLn kLn
  have bLn := FLn.binds (ps := P_Code___len__) fun _ _ _ _ _ _ us hl => match us, hl with | [_], _ => rfl
  have FLen := fun_mk (st := s_Code_length) lLen cLen kLen
  have bLen := FLen.binds (ps := P_Code_length) fun _ _ _ _ _ _ us hl => match us, hl with | [_, _], _ => rfl
  have FCL := fun_mk (st := s_Code_check_letters) lCL cCL kCL
  have bCL := FCL.binds (ps := P_Code_check_letters) fun _ _ _ _ _ _ us hl => match us, hl with | [_, _], _ => rfl
  have FR := fun_mk (st := s_Code_run) lR cR kR
  have bR := FR.binds (ps := P_Code_run) fun _ _ _ _ _ _ us hl => match us, hl with | [_, _, _], _ => rfl
  have FV := fun_mk (st := s_BadValue___init__) lV cV kV
  have bV := FV.binds (ps := P_BadValue___init__) fun _ _ _ _ _ _ us hl => match us, hl with | [_, _], _ => rfl
  have FBC := fun_mk (st := s_BadCode___init__) lBC cBC kBC
  have bBC := FBC.binds (ps := P_BadCode___init__) fun _ _ _ _ _ _ us hl => match us, hl with | [_, _], _ => rfl
  have FT := fun_mk (st := s_TooMany___init__) lT cT kT
  have bT := FT.binds (ps := P_TooMany___init__) fun _ _ _ _ _ _ us hl => match us, hl with | [_, _], _ => rfl
  have TB : BaseT K mg "CodeError" B := ⟨PySem.W.mg_of X G BC, Bs0, Br, Bv⟩
  have TK : TxtK K mg C fCS B CB fBC := { len := PySem.W.mg_none_of X G z_len, any := PySem.W.mg_none_of X G z_any, tuple := PySem.W.mg_none_of X G z_tuple, enumerate := PySem.W.mg_none_of X G z_enumerate, base := TB, bc := ⟨⟨⟨ebnm, ebq, ebN, ebbs, _, ebsn, ebsub, ebab, ebcol, ebdd, ebm0, ebm1, ebm2, ebm3, ebm5, ebL, by rfl⟩, ebsa, ebex, ebty, ebkc⟩, PySem.W.mg_of X G ebC, aBC, ebtI, ebnf, ⟨ebga, ebgg, ebex, ebhd⟩⟩, cl := ⟨cpg, chd, cpo, csa⟩, nL := cnL, nR := cnR, nE := cnE, mgCode := PySem.W.mg_of X G cC, mcheck_states := PySem.W.mg_of X G aCS, kcheck_states := kCS }
  have TL' : TxtL K mg C fCS fSP B CB fBC CV fV fCL fR := { TK with mstrange_place := PySem.W.mg_of X G aSP, kstrange_place := kSP, bv := ⟨⟨⟨evnm, evq, evN, evbs, _, evsn, evsub, evab, evcol, evdd, evm0, evm1, evm2, evm3, evm5, evL, by rfl⟩, evsa, evex, evty, evkc⟩, PySem.W.mg_of X G evC, aV, evtI, evnf, ⟨evga, evgg, evex, evhd⟩⟩, mtCL := ⟨aCL, iCL, kCL⟩, mtRun := ⟨aR, iR, kR⟩ }
  have TE : TxtE K mg B CT fT := ⟨PySem.W.mg_none_of X G z_len, TB, ⟨⟨⟨etnm, etq, etN, etbs, _, etsn, etsub, etab, etcol, etdd, etm0, etm1, etm2, etm3, etm5, etL, by rfl⟩, etsa, etex, etty, etkc⟩, PySem.W.mg_of X G etC, aT, ettI, etnf, ⟨etga, etgg, etex, ethd⟩⟩⟩
  have TU : PlainE K mg "Unlike" CU [.type "ValueError", .type "Exception", .type "BaseException", .type "object"] "ValueError.__new__" := ⟨euq, PySem.W.mg_of X G euC, eukc, euex, euty⟩
  have TX : TxtEx K mg CV CU CT fV fT := { bv := TL'.bv, tm := TE.tm, gU := PySem.W.mg_of X G euC, vv := PySem.W.exm_ref evex evhd evty evss, uv := PySem.W.exm_ref evex evhd evty euv, uu := PySem.W.exm_ref euex euhd euty euss, tv := PySem.W.exm_ref evex evhd evty etv, tu := PySem.W.exm_ref euex euhd euty etu, tt := PySem.W.exm_ref etex ethd etty etss }
  have TD : TxtD K mg fD := { int := PySem.W.mg_none_of X G z_int, len := PySem.W.mg_none_of X G z_len, list := PySem.W.mg_none_of X G z_list, range := PySem.W.mg_none_of X G z_range, sorted := PySem.W.mg_none_of X G z_sorted, m_law_draw := PySem.W.mg_of X G aD, k_law_draw := kD }
  have TO : TxtO K mg fOr := { TD with m_law_order := PySem.W.mg_of X G aOr, k_law_order := kOr }
  have TLn : TxtLn K C fLn := ⟨aLn, iLn⟩
  have TSu : TxtSu K mg fMa fSu fIR := ⟨PySem.W.mg_of X G aMa, kMa, PySem.W.mg_of X G aSu, kSu, PySem.W.mg_of X G aIR, kIR⟩
  have TFa : TxtFa K mg fMa fTi fIR := ⟨PySem.W.mg_of X G aMa, kMa, PySem.W.mg_of X G aTi, kTi, PySem.W.mg_of X G aIR, kIR⟩
  have TWo : TxtWo K mg fMa fTr fIR := ⟨PySem.W.mg_of X G aMa, kMa, PySem.W.mg_of X G aTr, kTr, PySem.W.mg_of X G aIR, kIR⟩
  have TA : TxtAll K mg fD fP fB fPen fLe fCo fCn fSR fFR fWR fMa fCa fWh fSu fTr := { TD with m_law_pick := PySem.W.mg_of X G aP, k_law_pick := kP, m_law_bits := PySem.W.mg_of X G aB, k_law_bits := kB, m_law_pen := PySem.W.mg_of X G aPen, k_law_pen := kPen, m_law_letters := PySem.W.mg_of X G aLe, k_law_letters := kLe, m_law_code := PySem.W.mg_of X G aCo, k_law_code := kCo, m_law_column := PySem.W.mg_of X G aCn, k_law_column := kCn, m_law_is_sum_right := PySem.W.mg_of X G aSR, k_law_is_sum_right := kSR, m_law_is_factor_right := PySem.W.mg_of X G aFR, k_law_is_factor_right := kFR, m_law_are_words_right := PySem.W.mg_of X G aWR, k_law_are_words_right := kWR, m_law_made_code := PySem.W.mg_of X G aMa, k_law_made_code := kMa, m_law_caught := PySem.W.mg_of X G aCa, k_law_caught := kCa, m_law_wheel := PySem.W.mg_of X G aWh, k_law_wheel := kWh, msummed := PySem.W.mg_of X G aSu, ksummed := kSu, mtranslated := PySem.W.mg_of X G aTr, ktranslated := kTr, min := PySem.W.mg_none_of X G z_min, dict := PySem.W.mg_none_of X G z_dict }
  have memP : ∀ {Q : Addr × Addr → Prop}, Q (cM, pM) → Q (cTi, pTi) → Q (cTr, pTr) → Q (cSu, pSu) → Q (cSR, pSR) → Q (cFR, pFR) → Q (cWR, pWR) → Q (cLaw, pLaw) → ∀ p ∈ [(cM, pM), (cTi, pTi), (cTr, pTr), (cSu, pSu), (cSR, pSR), (cFR, pFR), (cWR, pWR), (cLaw, pLaw)], Q p := fun hM hTi hTr hSu hSR hFR hWR hLaw => List.forall_mem_cons.mpr ⟨hM, List.forall_mem_cons.mpr ⟨hTi, List.forall_mem_cons.mpr ⟨hTr, List.forall_mem_cons.mpr ⟨hSu, List.forall_mem_cons.mpr ⟨hSR, List.forall_mem_cons.mpr ⟨hFR, List.forall_mem_cons.mpr ⟨hWR, List.forall_mem_cons.mpr ⟨hLaw, fun _ z => nomatch z⟩⟩⟩⟩⟩⟩⟩⟩
  refine ⟨PySem.W.fnOf "law" "law" (defArgs s_law) (defBody s_law) (defScope s_law) .none kVLaw dcLaw pmLaw anLaw (.ref cLaw) ctLaw, [(cM, pM), (cTi, pTi), (cTr, pTr), (cSu, pSu), (cSR, pSR), (cFR, pFR), (cWR, pWR), (cLaw, pLaw)], spLaw K (nts pM pTi pTr pSu pSR pFR pWR pLaw), memP tM tTi tTr tSu tSR tFR tWR tLaw, memP nM nTi nTr nSu nSR nFR nWR nLaw, memP (PySem.W.codeHd_of_K X qM) (PySem.W.codeHd_of_K X qTi) (PySem.W.codeHd_of_K X qTr) (PySem.W.codeHd_of_K X qSu) (PySem.W.codeHd_of_K X qSR) (PySem.W.codeHd_of_K X qFR) (PySem.W.codeHd_of_K X qWR) (PySem.W.codeHd_of_K X qLaw), fun s v => .of_eq rfl, fun H a ns hl _ hH hS => ⟨a, ns, rfl, hS, hl, ?_, fun _ => rfl⟩, fun base KB GB hB => ?_⟩
  · have hM := hH (cM, pM) (by simp)
    have hTi := hH (cTi, pTi) (by simp)
    have hTr := hH (cTr, pTr) (by simp)
    have hSu := hH (cSu, pSu) (by simp)
    have hSR := hH (cSR, pSR) (by simp)
    have hFR := hH (cFR, pFR) (by simp)
    have hWR := hH (cWR, pWR) (by simp)
    have hLaw := hH (cLaw, pLaw) (by simp)
    exact List.forall_mem_cons.mpr ⟨TabN.nil hM, List.forall_mem_cons.mpr ⟨TabN.nil hTi, List.forall_mem_cons.mpr ⟨TabN.nil hTr, List.forall_mem_cons.mpr ⟨TabN.nil hSu, List.forall_mem_cons.mpr ⟨TabN.nil hSR, List.forall_mem_cons.mpr ⟨TabN.nil hFR, List.forall_mem_cons.mpr ⟨TabN.nil hWR, List.forall_mem_cons.mpr ⟨TabN.nil hLaw, fun _ z => nomatch z⟩⟩⟩⟩⟩⟩⟩⟩
  · have BM := hB (cM, pM) (by simp)
    have BTi := hB (cTi, pTi) (by simp)
    have BTr := hB (cTr, pTr) (by simp)
    have BSu := hB (cSu, pSu) (by simp)
    have BSR := hB (cSR, pSR) (by simp)
    have BFR := hB (cFR, pFR) (by simp)
    have BWR := hB (cWR, pWR) (by simp)
    have BLaw := hB (cLaw, pLaw) (by simp)
    have TM : TxtM K mg base (nts pM pTi pTr pSu pSR pFR pWR pLaw) C fCS B CB fBC fX cM pM := { TK with zip := PySem.W.mg_none_of X G z_zip, mexplored := PySem.W.mg_of X G aX, kexplored := kX, most := ms, tbM := BM, tmM := by simp, tuM := List.forall_mem_cons.mpr ⟨fun _ => rfl, List.forall_mem_cons.mpr ⟨fun z => absurd z dMTi.symm, List.forall_mem_cons.mpr ⟨fun z => absurd z dMTr.symm, List.forall_mem_cons.mpr ⟨fun z => absurd z dMSu.symm, List.forall_mem_cons.mpr ⟨fun z => absurd z dMSR.symm, List.forall_mem_cons.mpr ⟨fun z => absurd z dMFR.symm, List.forall_mem_cons.mpr ⟨fun z => absurd z dMWR.symm, List.forall_mem_cons.mpr ⟨fun z => absurd z dMLaw.symm, fun _ z => nomatch z⟩⟩⟩⟩⟩⟩⟩⟩ }
    have T1Ti : TxtN2 base mg (nts pM pTi pTr pSu pSR pFR pWR pLaw) cTi pTi (nm_times) := ⟨BTi, by simp, List.forall_mem_cons.mpr ⟨fun z => absurd z dMTi, List.forall_mem_cons.mpr ⟨fun _ => rfl, List.forall_mem_cons.mpr ⟨fun z => absurd z dTiTr.symm, List.forall_mem_cons.mpr ⟨fun z => absurd z dTiSu.symm, List.forall_mem_cons.mpr ⟨fun z => absurd z dTiSR.symm, List.forall_mem_cons.mpr ⟨fun z => absurd z dTiFR.symm, List.forall_mem_cons.mpr ⟨fun z => absurd z dTiWR.symm, List.forall_mem_cons.mpr ⟨fun z => absurd z dTiLaw.symm, fun _ z => nomatch z⟩⟩⟩⟩⟩⟩⟩⟩⟩
    have T1Tr : TxtN2 base mg (nts pM pTi pTr pSu pSR pFR pWR pLaw) cTr pTr (nm_translated) := ⟨BTr, by simp, List.forall_mem_cons.mpr ⟨fun z => absurd z dMTr, List.forall_mem_cons.mpr ⟨fun z => absurd z dTiTr, List.forall_mem_cons.mpr ⟨fun _ => rfl, List.forall_mem_cons.mpr ⟨fun z => absurd z dTrSu.symm, List.forall_mem_cons.mpr ⟨fun z => absurd z dTrSR.symm, List.forall_mem_cons.mpr ⟨fun z => absurd z dTrFR.symm, List.forall_mem_cons.mpr ⟨fun z => absurd z dTrWR.symm, List.forall_mem_cons.mpr ⟨fun z => absurd z dTrLaw.symm, fun _ z => nomatch z⟩⟩⟩⟩⟩⟩⟩⟩⟩
    have T1Su : TxtN2 base mg (nts pM pTi pTr pSu pSR pFR pWR pLaw) cSu pSu (nm_summed) := ⟨BSu, by simp, List.forall_mem_cons.mpr ⟨fun z => absurd z dMSu, List.forall_mem_cons.mpr ⟨fun z => absurd z dTiSu, List.forall_mem_cons.mpr ⟨fun z => absurd z dTrSu, List.forall_mem_cons.mpr ⟨fun _ => rfl, List.forall_mem_cons.mpr ⟨fun z => absurd z dSuSR.symm, List.forall_mem_cons.mpr ⟨fun z => absurd z dSuFR.symm, List.forall_mem_cons.mpr ⟨fun z => absurd z dSuWR.symm, List.forall_mem_cons.mpr ⟨fun z => absurd z dSuLaw.symm, fun _ z => nomatch z⟩⟩⟩⟩⟩⟩⟩⟩⟩
    have T1SR : TxtN2 base mg (nts pM pTi pTr pSu pSR pFR pWR pLaw) cSR pSR (fun _ _ => Q_sumr ++ "<lambda>") := ⟨BSR, by simp, List.forall_mem_cons.mpr ⟨fun z => absurd z dMSR, List.forall_mem_cons.mpr ⟨fun z => absurd z dTiSR, List.forall_mem_cons.mpr ⟨fun z => absurd z dTrSR, List.forall_mem_cons.mpr ⟨fun z => absurd z dSuSR, List.forall_mem_cons.mpr ⟨fun _ => rfl, List.forall_mem_cons.mpr ⟨fun z => absurd z dSRFR.symm, List.forall_mem_cons.mpr ⟨fun z => absurd z dSRWR.symm, List.forall_mem_cons.mpr ⟨fun z => absurd z dSRLaw.symm, fun _ z => nomatch z⟩⟩⟩⟩⟩⟩⟩⟩⟩
    have T1FR : TxtN2 base mg (nts pM pTi pTr pSu pSR pFR pWR pLaw) cFR pFR (fun _ _ => Q_factor ++ "<lambda>") := ⟨BFR, by simp, List.forall_mem_cons.mpr ⟨fun z => absurd z dMFR, List.forall_mem_cons.mpr ⟨fun z => absurd z dTiFR, List.forall_mem_cons.mpr ⟨fun z => absurd z dTrFR, List.forall_mem_cons.mpr ⟨fun z => absurd z dSuFR, List.forall_mem_cons.mpr ⟨fun z => absurd z dSRFR, List.forall_mem_cons.mpr ⟨fun _ => rfl, List.forall_mem_cons.mpr ⟨fun z => absurd z dFRWR.symm, List.forall_mem_cons.mpr ⟨fun z => absurd z dFRLaw.symm, fun _ z => nomatch z⟩⟩⟩⟩⟩⟩⟩⟩⟩
    have T1WR : TxtN2 base mg (nts pM pTi pTr pSu pSR pFR pWR pLaw) cWR pWR (fun _ _ => Q_words ++ "<lambda>") := ⟨BWR, by simp, List.forall_mem_cons.mpr ⟨fun z => absurd z dMWR, List.forall_mem_cons.mpr ⟨fun z => absurd z dTiWR, List.forall_mem_cons.mpr ⟨fun z => absurd z dTrWR, List.forall_mem_cons.mpr ⟨fun z => absurd z dSuWR, List.forall_mem_cons.mpr ⟨fun z => absurd z dSRWR, List.forall_mem_cons.mpr ⟨fun z => absurd z dFRWR, List.forall_mem_cons.mpr ⟨fun _ => rfl, List.forall_mem_cons.mpr ⟨fun z => absurd z dWRLaw.symm, fun _ z => nomatch z⟩⟩⟩⟩⟩⟩⟩⟩⟩
    have T1Law : TxtN2 base mg (nts pM pTi pTr pSu pSR pFR pWR pLaw) cLaw pLaw (fun _ _ => Q_law ++ "<lambda>") := ⟨BLaw, by simp, List.forall_mem_cons.mpr ⟨fun z => absurd z dMLaw, List.forall_mem_cons.mpr ⟨fun z => absurd z dTiLaw, List.forall_mem_cons.mpr ⟨fun z => absurd z dTrLaw, List.forall_mem_cons.mpr ⟨fun z => absurd z dSuLaw, List.forall_mem_cons.mpr ⟨fun z => absurd z dSRLaw, List.forall_mem_cons.mpr ⟨fun z => absurd z dFRLaw, List.forall_mem_cons.mpr ⟨fun z => absurd z dWRLaw, List.forall_mem_cons.mpr ⟨fun _ => rfl, fun _ z => nomatch z⟩⟩⟩⟩⟩⟩⟩⟩⟩
    have GMa : FnOk l.prog w K mg base (L2.CX l.prog w) 6 fMa _ P__law_made_code (spMadeC K C) := ok_madeC FMa TK ⟨cmk, aI, iI, ckc⟩ FI bI FCS bCS FBC bBC
    have GTi : FnOk l.prog w K mg base (L2.CX l.prog w) 11 fTi _ P_times (spTimes K (nts pM pTi pTr pSu pSR pFR pWR pLaw) C) := ok_times FTi T1Ti (PySem.W.mg_of X G aM) kM ⟨aR, iR, kR⟩ FR bR FM bM TM TE FX bX FT bT ⟨cmk, aI, iI, ckc⟩ FI bI FCS bCS FBC bBC
    have GTr : FnOk l.prog w K mg base (L2.CX l.prog w) 11 fTr _ P_translated (spTrans K (nts pM pTi pTr pSu pSR pFR pWR pLaw) C CV) := ok_translated FTr T1Tr (PySem.W.mg_of X G aM) kM ⟨aR, iR, kR⟩ FR bR TL' FSP bSP FV bV FM bM TM TE FX bX FT bT ⟨cmk, aI, iI, ckc⟩ FI bI FCS bCS FBC bBC
    have GSu : FnOk l.prog w K mg base (L2.CX l.prog w) 11 fSu _ P_summed (spSummed K (nts pM pTi pTr pSu pSR pFR pWR pLaw) C CT CU) := ok_summed FSu T1Su (PySem.W.mg_of X G aM) kM TU ⟨aR, iR, kR⟩ FR bR FM bM TM TE FX bX FT bT ⟨cmk, aI, iI, ckc⟩ FI bI FCS bCS FBC bBC
    have GLen : FnOk l.prog w K mg base (L2.CX l.prog w) 4 fLen _ P_Code_length (spLen K C CV) := ok_len FLen TL' FSP bSP FV bV FCL bCL FR bR
    have GIK : FnOk l.prog w K mg base CX0 10 fIR _ P__law_is_right (spIsRight l.prog w K mg base kdK kddK C) := ok_isright kddK FIR TO TK TLn FOr bOr FLn bLn ⟨aLen, iLen, kLen⟩ GLen bLen
    have GIT : FnOk l.prog w K mg base CX0 10 fIR _ P__law_is_right (spIsRight l.prog w K mg base kdT kddT C) := ok_isright kddT FIR TO TK TLn FOr bOr FLn bLn ⟨aLen, iLen, kLen⟩ GLen bLen
    have GSR : FnOk l.prog w K mg base (L2.CX l.prog w) 12 fSR _ P__law_is_sum_right (spSumR K (nts pM pTi pTr pSu pSR pFR pWR pLaw)) := ok_sumr FSR T1SR TSu (PySem.W.mg_of X G aLL) kLL FLL bLL (PySem.W.mg_of X G aW) kW FW bW GMa bMa GSu bSu GIT bIR
    have GFR : FnOk l.prog w K mg base (L2.CX l.prog w) 12 fFR _ P__law_is_factor_right (spFactor K (nts pM pTi pTr pSu pSR pFR pWR pLaw)) := ok_factor FFR T1FR TFa (PySem.W.mg_of X G aLL) kLL FLL bLL (PySem.W.mg_of X G aW) kW FW bW GMa bMa GTi bTi GIK bIR
    have GWR : FnOk l.prog w K mg base (L2.CX l.prog w) 12 fWR _ P__law_are_words_right (spWordsR K (nts pM pTi pTr pSu pSR pFR pWR pLaw)) := ok_wordsr FWR T1WR TWo (PySem.W.mg_of X G aLL) kLL FLL bLL (PySem.W.mg_of X G aW) kW FW bW GMa bMa GTr bTr GIK bIR
    have GCa : FnOk l.prog w K mg base CX0 13 fCa _ P__law_caught (spCaught l.prog w K mg base (nts pM pTi pTr pSu pSR pFR pWR pLaw) CV CU CT) := ok_caught FCa TX
    have GLn : FnOk l.prog w K mg base CX0 1 fLn _ P_Code___len__ (spLn K C) := ok_ln FLn TK
    exact ok_law FLaw T1Law TA FD bD FP bP FB bB FPen bPen FLe bLe FCo bCo FCn bCn GSR bSR GFR bFR GWR bWR GMa bMa GCa bCa FWh bWh GSu bSu GTr bTr TLn GLn bLn
theorem walkT {l : PySem.W.OpenLaw} {q : Program} {loose : List Str} {XP : (Str → Option Value) → Heap → Prop} {YP : World → Heap → Prop} {d : DefRec} {K : Params → PySem.W.Frag} (hn : l.most = some 63) (hdf : d.params.defaults = [])
    (hY : ∀ (w : World) (h : Heap), YP w h → (K w.params).In h)
    (F : ∀ (w : World) (mg : Str → Option Value) (fa : Addr) (h : Heap), YP w h → (K w.params).In h → h.Ns mainGlobals mg → mg d.name = some (.ref fa) → LawAtS l w (K w.params) (L2.CX l.prog w) 14 63 "_law_script" mg fa h) :
    PySem.W.WalkO q loose XP YP l.row.toRowW d [] (fun f vs => PySem.call f vs) :=
  LamX.walk_ofTs (n := 63) (k := 14) (x := "_law_script") (CX := fun w => L2.CX l.prog w) hn (by decide) hdf ⟨rfl, by decide, by decide⟩ hY F fun _ _ _ _ _ ⟨_, _, _, _, _, _, _, _, _, _, _, _, z⟩ => z
end Vf
open PySem PySem.W PyProof.Rows
set_option maxRecDepth 100000 in
set_option maxHeartbeats 0 in
theorem PySem.Challenge.cw_bestcodes_k07_codes_put_together_holds : PySem.Challenge.rw_bestcodes_k07_codes_put_together.Holds := by
  w_on; o_law; k_head; (case hw => w_witness2)
  k_fill
  refine Vf.walkT (l := PySem.Challenge.rw_bestcodes_k07_codes_put_together) rfl rfl (fun w h Y => PySem.W.km_in_of Y) ?F
  case F =>
    intro w mg fa h Y KX G hmg
    have hT8 := PySem.W.km_tabs_of Y
    refine' Vf.all_at KX G hmg ?aD ?lD ?cD ?kD ?aP ?lP ?cP ?kP ?aB ?lB ?cB ?kB ?aPen ?lPen ?cPen ?kPen ?aLe ?lLe ?cLe ?kLe ?aCo ?lCo ?cCo ?kCo ?aCn ?lCn ?cCn ?kCn ?aMa ?lMa ?cMa ?kMa ?aW ?lW ?cW ?kW ?aLL ?lLL ?cLL ?kLL ?aOr ?lOr ?cOr ?kOr ?aIR ?lIR ?cIR ?kIR ?aCa ?lCa ?cCa ?kCa ?aWh ?lWh ?cWh ?kWh ?aCS ?lCS ?cCS ?kCS ?aSP ?lSP ?cSP ?kSP ?aX ?lX ?cX ?kX ?aM ?lM ?chM ?kM ?oM ?eM ?qM ?nM ?tM ?aTi ?lTi ?chTi ?kTi ?oTi ?eTi ?qTi ?nTi ?tTi ?aTr ?lTr ?chTr ?kTr ?oTr ?eTr ?qTr ?nTr ?tTr ?aSu ?lSu ?chSu ?kSu ?oSu ?eSu ?qSu ?nSu ?tSu ?aSR ?lSR ?chSR ?kSR ?oSR ?eSR ?qSR ?nSR ?tSR ?aFR ?lFR ?chFR ?kFR ?oFR ?eFR ?qFR ?nFR ?tFR ?aWR ?lWR ?chWR ?kWR ?oWR ?eWR ?qWR ?nWR ?tWR ?aLaw ?lLaw ?chLaw ?kLaw ?oLaw ?eLaw ?qLaw ?nLaw ?tLaw ?aI ?iI ?lI ?cI ?kI ?aLn ?iLn ?lLn ?cLn ?kLn ?aLen ?iLen ?lLen ?cLen ?kLen ?aCL ?iCL ?lCL ?cCL ?kCL ?aR ?iR ?lR ?cR ?kR ?aV ?iV ?lV ?cV ?kV ?aBC ?iBC ?lBC ?cBC ?kBC ?aT ?iT ?lT ?cT ?kT ?dMTi ?dMTr ?dTiTr ?dMSu ?dTiSu ?dTrSu ?dMSR ?dTiSR ?dTrSR ?dSuSR ?dMFR ?dTiFR ?dTrFR ?dSuFR ?dSRFR ?dMWR ?dTiWR ?dTrWR ?dSuWR ?dSRWR ?dFRWR ?dMLaw ?dTiLaw ?dTrLaw ?dSuLaw ?dSRLaw ?dFRLaw ?dWRLaw ?z_int ?z_len ?z_list ?z_range ?z_sorted ?z_any ?z_tuple ?z_enumerate ?z_min ?z_dict ?z_zip ?ms ?cC ?cpg ?chd ?cpo ?csa ?cmk ?ckc ?cnL ?cnR ?cnE ?evC ?evL ?evsa ?evex ?evty ?evkc ?evtI ?evnf ?evga ?evgg ?evhd ?evss ?ebC ?ebL ?ebsa ?ebex ?ebty ?ebkc ?ebtI ?ebnf ?ebga ?ebgg ?ebhd ?ebss ?etC ?etL ?etsa ?etex ?etty ?etkc ?ettI ?etnf ?etga ?etgg ?ethd ?etss ?BC ?Bs0 ?Br ?Bv ?euC ?euq ?eukc ?euex ?euty ?euhd ?euss ?euv ?etv ?etu
    (case cC => k_is)
    (case evC => k_is)
    (case ebC => k_is)
    (case etC => k_is)
    (case BC => k_is)
    (case euC => first | k_is | kernel_rfl)
    (case aD => k_is)
    (case lD => k_is)
    (case cD => k_is)
    (case kD => k_is)
    (case aP => k_is)
    (case lP => k_is)
    (case cP => k_is)
    (case kP => k_is)
    (case aB => k_is)
    (case lB => k_is)
    (case cB => k_is)
    (case kB => k_is)
    (case aPen => k_is)
    (case lPen => k_is)
    (case cPen => k_is)
    (case kPen => k_is)
    (case aLe => k_is)
    (case lLe => k_is)
    (case cLe => k_is)
    (case kLe => k_is)
    (case aCo => k_is)
    (case lCo => k_is)
    (case cCo => k_is)
    (case kCo => k_is)
    (case aCn => k_is)
    (case lCn => k_is)
    (case cCn => k_is)
    (case kCn => k_is)
    (case aMa => k_is)
    (case lMa => k_is)
    (case cMa => k_is)
    (case kMa => k_is)
    (case aW => k_is)
    (case lW => k_is)
    (case cW => k_is)
    (case kW => k_is)
    (case aLL => k_is)
    (case lLL => k_is)
    (case cLL => k_is)
    (case kLL => k_is)
    (case aOr => k_is)
    (case lOr => k_is)
    (case cOr => k_is)
    (case kOr => k_is)
    (case aIR => k_is)
    (case lIR => k_is)
    (case cIR => k_is)
    (case kIR => k_is)
    (case aCa => k_is)
    (case lCa => k_is)
    (case cCa => k_is)
    (case kCa => k_is)
    (case aWh => k_is)
    (case lWh => k_is)
    (case cWh => k_is)
    (case kWh => k_is)
    (case aCS => k_is)
    (case lCS => k_is)
    (case cCS => k_is)
    (case kCS => k_is)
    (case aSP => k_is)
    (case lSP => k_is)
    (case cSP => k_is)
    (case kSP => k_is)
    (case aX => k_is)
    (case lX => k_is)
    (case cX => k_is)
    (case kX => k_is)
    (case aM => k_is)
    (case lM => k_is)
    (case chM => k_is)
    (case kM => k_is)
    (case oM => k_is)
    (case eM => rfl)
    (case qM => kernel_rfl)
    (case nM => kernel_rfl)
    (case tM => exact hT8 _ (by decide))
    (case aTi => k_is)
    (case lTi => k_is)
    (case chTi => k_is)
    (case kTi => k_is)
    (case oTi => k_is)
    (case eTi => rfl)
    (case qTi => kernel_rfl)
    (case nTi => kernel_rfl)
    (case tTi => exact hT8 _ (by decide))
    (case aTr => k_is)
    (case lTr => k_is)
    (case chTr => k_is)
    (case kTr => k_is)
    (case oTr => k_is)
    (case eTr => rfl)
    (case qTr => kernel_rfl)
    (case nTr => kernel_rfl)
    (case tTr => exact hT8 _ (by decide))
    (case aSu => k_is)
    (case lSu => k_is)
    (case chSu => k_is)
    (case kSu => k_is)
    (case oSu => k_is)
    (case eSu => rfl)
    (case qSu => kernel_rfl)
    (case nSu => kernel_rfl)
    (case tSu => exact hT8 _ (by decide))
    (case aSR => k_is)
    (case lSR => k_is)
    (case chSR => k_is)
    (case kSR => k_is)
    (case oSR => k_is)
    (case eSR => rfl)
    (case qSR => kernel_rfl)
    (case nSR => kernel_rfl)
    (case tSR => exact hT8 _ (by decide))
    (case aFR => k_is)
    (case lFR => k_is)
    (case chFR => k_is)
    (case kFR => k_is)
    (case oFR => k_is)
    (case eFR => rfl)
    (case qFR => kernel_rfl)
    (case nFR => kernel_rfl)
    (case tFR => exact hT8 _ (by decide))
    (case aWR => k_is)
    (case lWR => k_is)
    (case chWR => k_is)
    (case kWR => k_is)
    (case oWR => k_is)
    (case eWR => rfl)
    (case qWR => kernel_rfl)
    (case nWR => kernel_rfl)
    (case tWR => exact hT8 _ (by decide))
    (case aLaw => k_is)
    (case lLaw => k_is)
    (case chLaw => k_is)
    (case kLaw => k_is)
    (case oLaw => k_is)
    (case eLaw => rfl)
    (case qLaw => kernel_rfl)
    (case nLaw => kernel_rfl)
    (case tLaw => exact hT8 _ (by decide))
    (case aI => k_is)
    (case iI => k_is)
    (case lI => k_is)
    (case cI => k_is)
    (case kI => k_is)
    (case aLn => k_is)
    (case iLn => k_is)
    (case lLn => k_is)
    (case cLn => k_is)
    (case kLn => k_is)
    (case aLen => k_is)
    (case iLen => k_is)
    (case lLen => k_is)
    (case cLen => k_is)
    (case kLen => k_is)
    (case aCL => k_is)
    (case iCL => k_is)
    (case lCL => k_is)
    (case cCL => k_is)
    (case kCL => k_is)
    (case aR => k_is)
    (case iR => k_is)
    (case lR => k_is)
    (case cR => k_is)
    (case kR => k_is)
    (case aV => k_is)
    (case iV => k_is)
    (case lV => k_is)
    (case cV => k_is)
    (case kV => k_is)
    (case aBC => k_is)
    (case iBC => k_is)
    (case lBC => k_is)
    (case cBC => k_is)
    (case kBC => k_is)
    (case aT => k_is)
    (case iT => k_is)
    (case lT => k_is)
    (case cT => k_is)
    (case kT => k_is)
    (case dMTi => decide)
    (case dMTr => decide)
    (case dTiTr => decide)
    (case dMSu => decide)
    (case dTiSu => decide)
    (case dTrSu => decide)
    (case dMSR => decide)
    (case dTiSR => decide)
    (case dTrSR => decide)
    (case dSuSR => decide)
    (case dMFR => decide)
    (case dTiFR => decide)
    (case dTrFR => decide)
    (case dSuFR => decide)
    (case dSRFR => decide)
    (case dMWR => decide)
    (case dTiWR => decide)
    (case dTrWR => decide)
    (case dSuWR => decide)
    (case dSRWR => decide)
    (case dFRWR => decide)
    (case dMLaw => decide)
    (case dTiLaw => decide)
    (case dTrLaw => decide)
    (case dSuLaw => decide)
    (case dSRLaw => decide)
    (case dFRLaw => decide)
    (case dWRLaw => decide)
    (case z_int => k_is)
    (case z_len => k_is)
    (case z_list => k_is)
    (case z_range => k_is)
    (case z_sorted => k_is)
    (case z_any => k_is)
    (case z_tuple => k_is)
    (case z_enumerate => k_is)
    (case z_min => k_is)
    (case z_dict => k_is)
    (case z_zip => k_is)
    (case ms => exact ⟨_, PySem.W.mg_of KX G (by k_is)⟩)
    (case cpg => k_is)
    (case chd => k_is)
    (case cpo => k_is)
    (case csa => k_is)
    (case cmk => k_is)
    (case ckc => k_is)
    (case cnL => k_is)
    (case cnR => k_is)
    (case cnE => k_is)
    (case evL => k_is)
    (case evsa => k_is)
    (case evex => k_is)
    (case evty => k_is)
    (case evkc => k_is)
    (case evtI => k_is)
    (case evnf => k_is)
    (case evga => k_is)
    (case evgg => k_is)
    (case evhd => k_is)
    (case evss => k_is)
    (case ebL => k_is)
    (case ebsa => k_is)
    (case ebex => k_is)
    (case ebty => k_is)
    (case ebkc => k_is)
    (case ebtI => k_is)
    (case ebnf => k_is)
    (case ebga => k_is)
    (case ebgg => k_is)
    (case ebhd => k_is)
    (case ebss => k_is)
    (case etL => k_is)
    (case etsa => k_is)
    (case etex => k_is)
    (case etty => k_is)
    (case etkc => k_is)
    (case ettI => k_is)
    (case etnf => k_is)
    (case etga => k_is)
    (case etgg => k_is)
    (case ethd => k_is)
    (case etss => k_is)
    (case Bs0 => k_is)
    (case Br => k_is)
    (case Bv => k_is)
    (case euq => first | k_is | kernel_rfl)
    (case eukc => first | k_is | kernel_rfl)
    (case euex => first | k_is | kernel_rfl)
    (case euty => first | k_is | kernel_rfl)
    (case euhd => first | k_is | kernel_rfl)
    (case euss => first | k_is | kernel_rfl)
    (case euv => first | k_is | kernel_rfl)
    (case etv => first | k_is | kernel_rfl)
    (case etu => first | k_is | kernel_rfl)
#print axioms PySem.Challenge.cw_bestcodes_k07_codes_put_together_holds
