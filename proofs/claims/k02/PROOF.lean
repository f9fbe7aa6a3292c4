import PyProof.Rows.All
import Wide.All
import OpenK.AllK
import Wide.FinOn
import HandS.ForMost
import HandS.Wide
import HandS.ExcInit
import HandS.ExcField
import HandS.WordsExc
import HandS.Style
import KE.GoesEnum
import HandS.Walk
import PyProof.EnumMake
import KE.GoesMore
import HandS.ExcOwn
import HandS.Exc
import HandS.Replace
import HandS.OwnEq
import HandS.NamedTupGet
import HandS.SlotsOwn
import HandS.List
import HandS.IsInst
import HandS.Call
import HandS.ExcIs
import PySem.Challenge.RW_bestcodes_k02_codes
set_option Elab.async false
set_option linter.all false
set_option maxRecDepth 100000
set_option maxHeartbeats 4000000
/-! the pen -/
namespace Vf
open PySem L2 PyProof.Rows
theorem nCA : ¬ (("cells" : Str) = "at") := by decide +kernel
theorem nCL : ¬ (("cells" : Str) = "left") := by decide +kernel
theorem nAL : ¬ (("at" : Str) = "left") := by decide +kernel
theorem nAC : ¬ (("at" : Str) = "cells") := by decide +kernel
theorem nLC : ¬ (("left" : Str) = "cells") := by decide +kernel
theorem nLA : ¬ (("left" : Str) = "at") := by decide +kernel
def penKV (c : Addr) (a l : Int) : List (Key × V) := [(Sum.inr "cells", .ref c), (Sum.inr "at", .int a), (Sum.inr "left", .int l)]
theorem pen_cells (c : Addr) (a l : Int) : valV (penKV c a l) (Sum.inr "cells") = some (.ref c) := by
  simp [valV, penKV]
theorem pen_at (c : Addr) (a l : Int) : valV (penKV c a l) (Sum.inr "at") = some (.int a) := by
  simp [valV, penKV, nCA]
theorem pen_left (c : Addr) (a l : Int) : valV (penKV c a l) (Sum.inr "left") = some (.int l) := by
  simp [valV, penKV, nCL, nAL]
theorem pen_putAt (c : Addr) (a l b : Int) : putK (penKV c a l) (Sum.inr "at") (.int b) = penKV c b l := by
  simp [putK, penKV, nCA, nLA]
theorem pen_putLeft (c : Addr) (a l b : Int) : putK (penKV c a l) (Sum.inr "left") (.int b) = penKV c a b := by
  simp [putK, penKV, nCL, nAL]
theorem pen_merge (c : Addr) (a l : Int) : mergeK [] (penKV c a l) = penKV c a l := by
  simp [mergeK, penKV, putK, nCA, nCL, nAL]
/-- what a call may leave of the heap: all but the pen at p -/
def Kp (p : Addr) (H H' : Hp) : Prop := ∀ b o, H b = some o → b ≠ p → H' b = some o
theorem Kp.refl (p : Addr) (H : Hp) : Kp p H H := fun _ _ h _ => h
theorem Kp.trans {p : Addr} {H H1 H2 : Hp} (a : Kp p H H1) (b : Kp p H1 H2) : Kp p H H2 := fun c o h n => b c o (a c o h n) n
theorem Kp.of {p : Addr} {H H1 : Hp} (s : Same H H1) : Kp p H H1 := fun b o h _ => s b o h
/-- the pen: a dict of the script's cells, the place, what is left -/
def PenO (H : Hp) (p c : Addr) (a l : Int) (cs : List Int) : Prop := H p = some (.dK (penKV c a l)) ∧ H c = some (.lst (cs.map V.int)) ∧ cs.length ≤ 63 ∧ 0 ≤ a ∧ 0 ≤ l
def Pen (H : Hp) (p c : Addr) (n : Nat) : Prop := ∃ a l cs, PenO H p c a l cs ∧ a ≤ n
theorem PenO.ne {H : Hp} {p c : Addr} {a l : Int} {cs : List Int} (P : PenO H p c a l cs) : c ≠ p := ne_of P.2.1 P.1 (by intro z; cases z)
theorem Pen.mono {H : Hp} {p c : Addr} {n m : Nat} (P : Pen H p c n) (h : n ≤ m) : Pen H p c m := by
  obtain ⟨a, l, cs, q, r⟩ := P
  exact ⟨a, l, cs, q, by omega⟩
theorem Pen.same {H H' : Hp} {p c : Addr} {n : Nat} (P : Pen H p c n) (s : Same H H') : Pen H' p c n := by
  obtain ⟨a, l, cs, ⟨q1, q2, q3⟩, r⟩ := P
  exact ⟨a, l, cs, ⟨s _ _ q1, s _ _ q2, q3⟩, r⟩
theorem Pen.dk {H : Hp} {p c : Addr} {n : Nat} (P : Pen H p c n) : ∃ kvs, H p = some (.dK kvs) := by
  obtain ⟨a, l, cs, ⟨q1, _⟩, _⟩ := P
  exact ⟨_, q1⟩
/-- another object is written -/
theorem Pen.put {H : Hp} {p c r : Addr} {n : Nat} {o : HO} (P : Pen H p c n) (h1 : r ≠ p) (h2 : r ≠ c) : Pen (upd H r o) p c n := by
  obtain ⟨a, l, cs, ⟨q1, q2, q3⟩, z⟩ := P
  exact ⟨a, l, cs, ⟨by rw [upd_ne h1.symm]; exact q1, by rw [upd_ne h2.symm]; exact q2, q3⟩, z⟩
theorem Pen.new {H : Hp} {p c r : Addr} {n : Nat} (P : Pen H p c n) (h : H r = none) : r ≠ p ∧ r ≠ c := by
  obtain ⟨a, l, cs, ⟨q1, q2, q3⟩, z⟩ := P
  exact ⟨(ne_of_none q1 h).symm, (ne_of_none q2 h).symm⟩
theorem Kp.free {p c l : Addr} {n : Nat} {H H' : Hp} (k : Kp p H H') (P : Pen H' p c n) (h : H' l = none) : H l = none := by
  cases e : H l with
  | none => rfl
  | some o =>
    have := k l o e (P.new h).1
    rw [h] at this; cases this
theorem Kp.put {p r : Addr} {H H' : Hp} {o : HO} (k : Kp p H H') (h : H r = none) : Kp p H (upd H' r o) := fun b u e n => by
  rw [upd_ne (ne_of_none e h)]
  exact k b u e n
/-- a new object beside -/
theorem same_new {H : Hp} {a : Addr} {o : HO} (h : H a = none) : Same H (upd H a o) := fun b u e => by
  rw [upd_ne (ne_of_none e h)]
  exact e
theorem Same.upd {H H' : Hp} {a : Addr} {o : HO} (s : Same H H') (h : H a = none) : Same H (upd H' a o) := fun b u e => by
  rw [upd_ne (ne_of_none e h)]
  exact s b u e
theorem kp_upd {H : Hp} {p : Addr} {o : HO} : Kp p H (L2.upd H p o) := fun b u e n => by
  rw [upd_ne n]
  exact e
theorem dget_left {H : Hp} {p c : Addr} {a l : Int} (h : H p = some (.dK (penKV c a l))) : DGet H p (.str "left") (some (.int l)) := by
  have := DGet.k (k := Sum.inr "left") h
  rw [pen_left] at this
  exact this
theorem dget_at {H : Hp} {p c : Addr} {a l : Int} (h : H p = some (.dK (penKV c a l))) : DGet H p (.str "at") (some (.int a)) := by
  have := DGet.k (k := Sum.inr "at") h
  rw [pen_at] at this
  exact this
theorem dget_cells {H : Hp} {p c : Addr} {a l : Int} (h : H p = some (.dK (penKV c a l))) : DGet H p (.str "cells") (some (.ref c)) := by
  have := DGet.k (k := Sum.inr "cells") h
  rw [pen_cells] at this
  exact this
theorem dput_left {H : Hp} {p c : Addr} {a l b : Int} (h : H p = some (.dK (penKV c a l))) : DPut H p (.str "left") (.int b) (L2.upd H p (.dK (penKV c a b))) := by
  have := DPut.k (k := Sum.inr "left") (v := .int b) h (by show 3 < sizeLine; decide)
  rw [pen_putLeft] at this
  exact this
theorem dput_at {H : Hp} {p c : Addr} {a l b : Int} (h : H p = some (.dK (penKV c a l))) : DPut H p (.str "at") (.int b) (L2.upd H p (.dK (penKV c b l))) := by
  have := DPut.k (k := Sum.inr "at") (v := .int b) h (by show 3 < sizeLine; decide)
  rw [pen_putAt] at this
  exact this
theorem dp_ints (K : PySem.W.Frag) {H : Hp} {c : Addr} {cs : List Int} (h : H c = some (.lst (cs.map V.int))) : Dp K H (.ref c) (.list (cs.map PyData.int)) := by
  refine .lst (SqL.of h) ?_
  clear h
  induction cs with
  | nil => exact .nil
  | cons x r ih => exact .cons (.int x) ih
theorem eqv_ints_nil (cs : List Int) : PyData.eqv (.list (cs.map PyData.int)) (.list []) = cs.isEmpty := by
  cases cs with
  | nil => simp [PyData.eqv, PyData.eqvAll]
  | cons x r => simp [PyData.eqv, PyData.eqvAll]
theorem shaped_nil : SeqAt.shaped (.list []) = true := PySem.W.shaped_ints []
theorem fmod_bounds {x m : Int} (h : 0 < m) : 0 ≤ x.fmod m ∧ x.fmod m < m := by
  rw [Int.fmod_eq_emod_of_nonneg x (Int.le_of_lt h)]
  exact ⟨Int.emod_nonneg _ (by omega), Int.emod_lt_of_pos _ h⟩
theorem log_lt {m : Int} (h0 : 0 < m) (h : m < 2 ^ 200) : m.natAbs.log2 < 9000 := by
  have : m.natAbs < 2 ^ 200 := by omega
  exact Nat.lt_of_lt_of_le (PySem.Flt.log2_lt_of (by decide) this) (by decide)
end Vf
set_option Elab.async false
set_option linter.all false
set_option maxRecDepth 100000
set_option maxHeartbeats 4000000
/-! texts of one sign, letters -/
namespace Vf
open PySem L2 PyProof.Rows
/-- a text of one sign -/
def sg (c : Nat) : Str := ⟨#[c]⟩
theorem sg_tl (c : Nat) : TL.tl (sg c) = [c] := rfl
theorem sg_inj {c d : Nat} (h : sg c = sg d) : c = d := by
  have : TL.tl (sg c) = TL.tl (sg d) := by rw [h]
  rw [sg_tl, sg_tl] at this
  exact List.cons.inj this |>.1
theorem joinL_sg : ∀ cs : List Nat, TL.joinL [] ((cs.map sg).map TL.tl) = cs
  | [] => rfl
  | [c] => rfl
  | c :: d :: r => by
    have ih := joinL_sg (d :: r)
    show [c] ++ ([] ++ TL.joinL [] (((d :: r).map sg).map TL.tl)) = c :: d :: r
    rw [ih]; rfl
theorem join_sg (cs : List Nat) : TL.tl (Txt.join Str.empty (cs.map sg)) = cs := by
  rw [TL.join_eq, TL.tl_join]
  exact joinL_sg cs
theorem sum_sg (cs : List Nat) : ((cs.map sg).map (·.length)).sum = cs.length := by
  induction cs with
  | nil => rfl
  | cons c r ih =>
    simp only [List.map_cons, List.sum_cons, ih, List.length_cons]
    show 1 + r.length = r.length + 1
    omega
/-- what is a permutation of texts of one sign, is such -/
theorem perm_sg : ∀ {ys : List Str} {cs : List Nat}, ys.Perm (cs.map sg) → ∃ ds : List Nat, ys = ds.map sg ∧ ds.Perm cs := by
  intro ys cs h
  have hall : ∀ y ∈ ys, ∃ c, y = sg c := fun y hy => by
    obtain ⟨c, _, e⟩ := List.mem_map.mp (h.mem_iff.mp hy)
    exact ⟨c, e.symm⟩
  have : ∃ ds : List Nat, ys = ds.map sg := by
    clear h
    induction ys with
    | nil => exact ⟨[], rfl⟩
    | cons y r ih =>
      obtain ⟨c, e⟩ := hall y (List.mem_cons_self ..)
      obtain ⟨ds, e2⟩ := ih fun z hz => hall z (List.mem_cons_of_mem _ hz)
      exact ⟨c :: ds, by rw [e, e2]; rfl⟩
  obtain ⟨ds, e⟩ := this
  refine ⟨ds, e, ?_⟩
  rw [e] at h
  have g : ∀ l : List Nat, (l.map sg).map (fun s => s.cps.toList.headD 0) = l := fun l => by
    rw [List.map_map]
    exact List.map_id'' (fun c => rfl) l
  have := h.map (fun s : Str => s.cps.toList.headD 0)
  rw [g, g] at this
  exact this
theorem rising_sg : ∀ (cs : List Nat) (p : Nat), PyProof.Rows.risingS (sg p) (cs.map sg) = true → (p :: cs).Pairwise (· ≤ ·)
  | [], p, _ => List.pairwise_singleton _ _
  | c :: r, p, h => by
    have h' : (!PySem.Spec.ltCps (sg c).cps.toList (sg p).cps.toList && PyProof.Rows.risingS (sg c) (r.map sg)) = true := h
    rw [Bool.and_eq_true] at h'
    have ih := rising_sg r c h'.2
    have hpc : p ≤ c := by
      have h1 := h'.1
      have e : PySem.Spec.ltCps (sg c).cps.toList (sg p).cps.toList = PySem.Spec.ltCps [c] [p] := rfl
      rw [e] at h1
      by_cases q : c < p
      · exfalso
        simp [PySem.Spec.ltCps, q] at h1
      · omega
    refine List.pairwise_cons.mpr ⟨fun d hd => ?_, ih⟩
    rcases List.mem_cons.mp hd with e | hd
    · omega
    · have := (List.pairwise_cons.mp ih).1 d hd
      omega
theorem sorted_sg {cs : List Nat} (h : PyProof.Rows.sortedS (cs.map sg) = true) : cs.Pairwise (· ≤ ·) := by
  cases cs with
  | nil => exact List.Pairwise.nil
  | cons c r => exact rising_sg r c h
/-- letters: ascending, from a to z -/
def Ltr (z : Str) (m : Nat) : Prop := z.length = m ∧ (TL.tl z).Pairwise (· < ·) ∧ ∀ c ∈ TL.tl z, 97 ≤ c ∧ c ≤ 122
def alpha : List Nat := TL.tl (Str.ofString "abcdefghijklmnopqrstuvwxyz")
theorem alpha_nodup : alpha.Nodup := by decide +kernel
theorem alpha_all : ∀ c ∈ alpha, 97 ≤ c ∧ c ≤ 122 := by decide +kernel
theorem alpha_len : alpha.length = 26 := by decide +kernel
theorem ltr_of {fs ds L : List Nat} (hp : (fs ++ L).Perm alpha) (hd : ds.Perm fs) (hs : ds.Pairwise (· ≤ ·)) : ds.Pairwise (· < ·) ∧ ∀ c ∈ ds, 97 ≤ c ∧ c ≤ 122 := by
  have nd : (fs ++ L).Nodup := hp.nodup_iff.mpr alpha_nodup
  have ndf : ds.Nodup := hd.nodup_iff.mpr (List.nodup_append.mp nd).1
  refine ⟨?_, fun c hc => alpha_all c (hp.mem_iff.mp (List.mem_append_left _ (hd.mem_iff.mp hc)))⟩
  have : ds.Pairwise (fun a b => a ≤ b ∧ a ≠ b) := List.Pairwise.and hs ndf
  exact this.imp fun ⟨h1, h2⟩ => by omega
theorem cutS_tl (z : Str) (lo hi : Option Int) : TL.tl (cutS z lo hi) = ((TL.tl z).drop (HT.sIx z.length 0 lo)).take (HT.sIx z.length z.length hi - HT.sIx z.length 0 lo) := by
  unfold cutS TL.tl
  simp
theorem cut_to {z : Str} {j : Nat} (h : j ≤ z.length) : TL.tl (cutS z none (some (j : Int))) = (TL.tl z).take j := by
  rw [cutS_tl, HT.sIx_none, HT.sIx_nat, List.drop_zero, Nat.min_eq_left h, Nat.sub_zero]
theorem cut_from {z : Str} {j : Nat} (h : j ≤ z.length) : TL.tl (cutS z (some (j : Int)) none) = (TL.tl z).drop j := by
  rw [cutS_tl, HT.sIx_none, HT.sIx_nat, Nat.min_eq_left h]
  exact List.take_of_length_le (by rw [List.length_drop, TL.len_tl]; omega)
theorem kp_seq {K : PySem.W.Frag} {p a : Addr} {H H' : Hp} {kvs : List (Key × V)} {xs : List V} (k : Kp p H H') (hp : H p = some (.dK kvs)) (h : SqL K H a xs) : SqL K H' a xs := by
  rcases h with (h | ⟨o, h⟩) | h
  · exact .inl (.inl (k _ _ h (ne_of h hp (by intro z; cases z))))
  · exact .inl (.inr ⟨o, k _ _ h (ne_of h hp (by intro z; cases z))⟩)
  · exact .inr h
theorem kp_seqT {K : PySem.W.Frag} {p a : Addr} {H H' : Hp} {kvs : List (Key × V)} {xs : List V} (k : Kp p H H') (hp : H p = some (.dK kvs)) (h : SqT K H a xs) : SqT K H' a xs := by
  rcases h with (h | ⟨o, h⟩) | h
  · exact .inl (.inl (k _ _ h (ne_of h hp (by intro z; cases z))))
  · exact .inl (.inr ⟨o, k _ _ h (ne_of h hp (by intro z; cases z))⟩)
  · exact .inr h
theorem at_of' {α : Type} {xs : List α} {z : Int} {j : Nat} {v : α} (e : z = (j : Int)) (h : xs[j]? = some v) : atI xs z = some v := by
  rw [e]
  exact atI_nat h
end Vf
set_option Elab.async false
set_option linter.all false
set_option maxRecDepth 100000
set_option maxHeartbeats 4000000
namespace Vf
open PySem L2 PyProof.Rows
def top (i : Nat) : Stmt := PySem.Challenge.pw_bestcodes_k02_codes.main.body.getD i (.Pass ⟨0, 0, 0, 0⟩)
structure TxtA (K : PySem.W.Frag) (mg : Str → Option Value) : Prop where
  int : mg "int" = none
  len : mg "len" = none
  list : mg "list" = none
  range : mg "range" = none
  sorted : mg "sorted" = none
def spPen (K : PySem.W.Frag) : Sp := fun vs H Q _ => ∃ (s : Addr) (ns : List Int), vs = [.ref s] ∧ SqL K H s (ns.map V.int) ∧ ns.length ≤ 63 ∧
  ∀ (p c : Addr) (H' : Hp), H p = none → H c = none → Pen H' p c 0 → Same H H' → Q (.ref p) H'
def spDraw : Sp := fun vs H Q _ => ∃ (p c : Addr) (m : Int) (n : Nat), vs = [.ref p, .int m] ∧ Pen H p c n ∧ n ≤ 2 ^ 30 ∧ 0 < m ∧ m < 2 ^ 200 ∧
  ∀ (d : Int) (H' : Hp), 0 ≤ d → d < m → Pen H' p c (n + 1) → Kp p H H' → Q (.int d) H'
/-- a pick out of a list; out of a text -/
def spPickL (K : PySem.W.Frag) : Sp := fun vs H Q _ => ∃ (p c a : Addr) (xs : List V) (n : Nat), vs = [.ref p, .ref a] ∧ Pen H p c n ∧ n ≤ 2 ^ 30 ∧ SqL K H a xs ∧ 0 < xs.length ∧ xs.length ≤ 1000 ∧
  ∀ (j : Nat) (v : V) (H' : Hp), xs[j]? = some v → Pen H' p c (n + 1) → Kp p H H' → Q v H'
def spPickS : Sp := fun vs H Q _ => ∃ (p c : Addr) (z : Str) (n : Nat), vs = [.ref p, .str z] ∧ Pen H p c n ∧ n ≤ 2 ^ 30 ∧ 0 < z.length ∧ z.length ≤ 1000 ∧
  ∀ (j x : Nat) (H' : Hp), (TL.tl z)[j]? = some x → Pen H' p c (n + 1) → Kp p H H' → Q (.str (sg x)) H'
def spLetters : Sp := fun vs H Q _ => ∃ (p c : Addr) (m : Nat) (n : Nat), vs = [.ref p, .int m] ∧ Pen H p c n ∧ n ≤ 2 ^ 29 ∧ m ≤ 26 ∧
  ∀ (z : Str) (H' : Hp), Ltr z m → Pen H' p c (n + m) → Kp p H H' → Q (.str z) H'
def spBits : Sp := fun vs H Q _ => ∃ (p c : Addr) (n : Nat), vs = [.ref p] ∧ Pen H p c n ∧ n ≤ 2 ^ 29 ∧
  ∀ (d : Int) (H' : Hp), 0 ≤ d → d < 100 → Pen H' p c (n + 3) → Kp p H H' → Q (.int d) H'
section
variable {P : Program} {w : World} {K : PySem.W.Frag} {mg : Str → Option Value} {base : Heap}
abbrev s__law_pen : Stmt := top 18
abbrev N__law_pen : List Str := ["_law_script"]
abbrev P__law_pen : List Str := ["_law_script"]
theorem sc__law_pen : FnScope N__law_pen P__law_pen (defScope s__law_pen) := ⟨rfl, rfl, rfl, by decide +kernel, rfl, by decide +kernel, by decide +kernel⟩

theorem ok_pen {f : Addr} {fd : FuncData} (F : Fun K "_law_pen" "_law_pen" s__law_pen f fd) (T : TxtA K mg) : FnOk P w K mg base CX0 1 f fd P__law_pen (spPen K) := by
  refine F.ok sc__law_pen (fun vs H Q E h => ?_) (fun cdv A outer s H vs Q E hr h => ?_)
  · obtain ⟨s, ns, rfl, _⟩ := h
    rfl
  · obtain ⟨s, ns, rfl, hS, hl, k⟩ := h
    refine ⟨_, (pss_one (ps_ret (pe_disp (pps_cons pe_str (pe_callTy call_list_of (by rfl) T.list boot_list (pa_cons (pe_slice sl_list (pv 0) po_none (po_some pe_int)) pa_nil)) (pps_cons pe_str pe_int (pps_cons pe_str pe_int pps_nil))) (by rfl) (by rfl) (fun z => by cases z) (by decide)))), ?_⟩
    intro p hp
    have s1 : Same H (L2.upd H p (.dK [])) := same_new hp
    refine ⟨_, rfl, _, rfl, s, _, rfl, s1.seq hS, fun q hq => ?_⟩
    have nqp : q ≠ p := (ne_of_none (upd_same (H := H) (a := p)) hq).symm
    refine ⟨q, _, rfl, Or.inl (SqL.of upd_same), fun c hc => ?_⟩
    have ncp : c ≠ p := fun e => by rw [e, upd_ne nqp.symm, upd_same] at hc; cases hc
    have ncq : c ≠ q := fun e => by rw [e, upd_same] at hc; cases hc
    refine ⟨(by rw [upd_ne ncp.symm, upd_ne nqp.symm, upd_same]), penKV c 0 0, rfl, (by show 3 ≤ 15; decide), ?_⟩
    rw [pen_merge]
    have hcn : H c = none := s1.free ((same_new hq).free hc)
    have hqn : H q = none := s1.free hq
    have ec : cutV (ns.map V.int) none (some 63) = (ns.take 63).map V.int := by
      rw [List.take_of_length_le hl]
      unfold cutV
      simp [HT.sIx]
      exact List.take_of_length_le (by rw [List.length_map]; omega)
    refine k p c _ hp hcn ⟨0, 0, ns.take 63, ⟨upd_same, ?_, ?_, by decide, by decide⟩, by decide⟩ ?_
    · rw [upd_ne ncp, upd_same, ec]
    · rw [List.length_take]; omega
    · intro b o e
      rw [upd_ne (ne_of_none e hp), upd_ne (ne_of_none e hcn), upd_ne (ne_of_none e hqn), upd_ne (ne_of_none e hp)]
      exact e
abbrev s__law_draw : Stmt := top 19
abbrev N__law_draw : List Str := ["_law_pen_here", "_law_many", "_law_digit", "_law_at", "_law_cell", "_law_mixed"]
abbrev P__law_draw : List Str := ["_law_pen_here", "_law_many"]
theorem sc__law_draw : FnScope N__law_draw P__law_draw (defScope s__law_draw) := ⟨rfl, rfl, rfl, by decide +kernel, rfl, by decide +kernel, by decide +kernel⟩

theorem ok_draw {f : Addr} {fd : FuncData} (F : Fun K "_law_draw" "_law_draw" s__law_draw f fd) (T : TxtA K mg) : FnOk P w K mg base CX0 1 f fd P__law_draw spDraw := by
  refine F.ok sc__law_draw (fun vs H Q E h => ?_) (fun cdv A outer s H vs Q E hr h => ?_)
  · obtain ⟨p, c, m, n, rfl, _⟩ := h
    rfl
  · obtain ⟨p, c, m, n, rfl, ⟨a, l, cs, ⟨h1, h2, h3, h4, h5⟩, h6⟩, hn, m0, m1, k⟩ := h
    have hu := hu_of hr
    have ncp : c ≠ p := ne_of h2 h1 (by intro z; cases z)
    refine ⟨_, (pss_cons (ps_if (pt_cmpR op_ge (pe_dget hu (pv 0) pe_str (fun _ _ => rfl)) (pv 1) (nomark _)) (pss_cons (ps_set (i := 2) sc__law_draw.nd rfl (Or.inl rfl) (pe_op op_modN (pe_callTy call_int1 (by rfl) T.int boot_int (pa_cons (pe_dget hu (pv 0) pe_str (fun _ _ => rfl)) pa_nil)) (pv 1)))
      (pss_cons (ps_dput hu (pv 0) pe_str (pe_op op_fdivW (pe_dget hu (pv 0) pe_str (fun _ _ => rfl)) (pv 1)) rfl)
      (pss_one (ps_ret (pv 2))))) pss_nil)
      (pss_cons (ps_set (i := 3) sc__law_draw.nd rfl (Or.inl rfl) (pe_dget hu (pv 0) pe_str (fun _ _ => rfl)))
      (pss_cons (ps_dput hu (pv 0) pe_str (pe_op op_add (pv 3) pe_int) rfl)
      (pss_cons (ps_set (i := 4) sc__law_draw.nd rfl (Or.inl rfl) (pe_op op_add (pe_op op_mul pe_int (pv 3)) pe_int))
      (pss_cons (ps_if (pt_cmpR (op_neD hr.units) (pe_dget hu (pv 0) pe_str (fun _ _ => rfl)) (pe_lst pa_nil) (nomark _)) (pss_one (ps_set (i := 4) sc__law_draw.nd rfl (Or.inl rfl) (pe_ix ix_list (pe_dget hu (pv 0) pe_str (fun _ _ => rfl)) (pe_op op_modN (pe_callTy call_int1 (by rfl) T.int boot_int (pa_cons (pv 3) pa_nil)) (pe_callB call_len (by rfl) T.len PySem.boot_len (pa_cons (pe_dget hu (pv 0) pe_str (fun _ _ => rfl)) pa_nil))) (fun _ _ => rfl)))) pss_nil)
      (pss_cons (ps_if (PW.pt (pw_and (pt_cmpR op_lt (pv 3) (pe_callB call_len (by rfl) T.len PySem.boot_len (pa_cons (pe_dget hu (pv 0) pe_str (fun _ _ => rfl)) pa_nil)) (nomark _)) (pw_and1 (pt_cmpR op_ge (pv 4) (pe_op op_pow pe_int pe_int) (nomark _))))) (pss_cons (ps_dput hu (pv 0) pe_str (pe_op op_fdivW (pe_op op_sub (pv 4) (pe_op op_pow pe_int pe_int)) (pv 1)) rfl)
      (pss_one (ps_ret (pe_op op_modN (pe_callTy call_int1 (by rfl) T.int boot_int (pa_cons (pe_op op_sub (pv 4) (pe_op op_pow pe_int pe_int)) pa_nil)) (pv 1))))) pss_nil)
      (pss_cons (ps_set (i := 5) sc__law_draw.nd rfl (Or.inl rfl) (pe_op op_add (pe_op op_add (pe_op op_add (pe_op op_mul (pe_op op_modN (pe_callTy call_int1 (by rfl) T.int boot_int (pa_cons (pv 4) pa_nil)) pe_int) pe_int) (pe_op op_mul (pe_op op_mul pe_int (pv 3)) (pv 3))) (pe_op op_mul pe_int (pv 3))) pe_int))
      (pss_cons (ps_set (i := 5) sc__law_draw.nd rfl (Or.inl rfl) (pe_op op_modN (pe_callTy call_int1 (by rfl) T.int boot_int (pa_cons (pv 5) pa_nil)) pe_int))
      (pss_cons (ps_set (i := 5) sc__law_draw.nd rfl (Or.inl rfl) (pe_op op_modN (pe_callTy call_int1 (by rfl) T.int boot_int (pa_cons (pe_op op_mul (pv 5) (pe_op op_add (pv 5) pe_int)) pa_nil)) pe_int))
      (pss_one (ps_ret (pe_op op_modN (pe_callTy call_int1 (by rfl) T.int boot_int (pa_cons (pe_op op_fdivN (pe_op op_modN (pe_callTy call_int1 (by rfl) T.int boot_int (pa_cons (pe_op op_mul (pv 5) (pv 5)) pa_nil)) pe_int) pe_int) pa_nil)) (pv 1))))))))))))), ?_⟩
    -- if pen['left'] >= many
    refine ⟨_, rfl, p, _, rfl, dget_left h1, _, rfl, _, _, rfl, rfl, _, rfl, ite2 (fun c1 => ?_) (fun c1 => ?_)⟩
    · have c1 : m ≤ l := by simpa using c1
      refine ⟨_, rfl, p, _, rfl, dget_left h1, Or.inl ⟨_, rfl, _, rfl, _, _, rfl, rfl, (by omega), ?_⟩⟩
      refine ⟨_, rfl, p, _, rfl, dget_left h1, _, rfl, _, _, rfl, rfl, ⟨m0, log_lt m0 m1⟩, _, rfl, p, _, rfl, dput_left h1, ?_⟩
      refine ⟨_, rfl, k _ _ (fmod_bounds m0).1 (fmod_bounds m0).2 ⟨a, l / m, cs, ⟨upd_same, by rw [upd_ne ncp]; exact h2, h3, h4, Int.ediv_nonneg h5 (by omega)⟩, by omega⟩ kp_upd⟩
    · -- at; pen['at'] = at + 1; cell = 41 * at + 23
      refine ⟨_, rfl, p, _, rfl, dget_at h1, ?_⟩
      refine ⟨_, rfl, _, _, rfl, rfl, _, rfl, p, _, rfl, dput_at h1, ?_⟩
      have g1 : (L2.upd H p (.dK (penKV c (a + 1) l))) p = some (.dK (penKV c (a + 1) l)) := upd_same
      have g2 : (L2.upd H p (.dK (penKV c (a + 1) l))) c = some (.lst (cs.map V.int)) := by rw [upd_ne ncp]; exact h2
      have gk : Kp p H (L2.upd H p (.dK (penKV c (a + 1) l))) := kp_upd
      revert g1 g2 gk
      generalize L2.upd H p (.dK (penKV c (a + 1) l)) = H1
      intro g1 g2 gk
      refine ⟨_, rfl, _, _, rfl, rfl, Or.inl ⟨by decide, by decide⟩, _, _, rfl, rfl, ?_⟩
      -- the cell
      refine ⟨_, rfl, p, _, rfl, dget_cells g1, (by show 0 ≤ sizeLine; decide), fun q hq => ?_⟩
      have nqp : q ≠ p := (ne_of_none g1 hq).symm
      have nqc : q ≠ c := (ne_of_none g2 hq).symm
      have k1 : (L2.upd H1 q (.lst [])) p = some (.dK (penKV c (a + 1) l)) := by rw [upd_ne nqp.symm]; exact g1
      have k2 : (L2.upd H1 q (.lst [])) c = some (.lst (cs.map V.int)) := by rw [upd_ne nqc.symm]; exact g2
      have kk : Kp p H (L2.upd H1 q (.lst [])) := gk.trans (Kp.of (same_new hq))
      refine ⟨_, _, dp_ints K k2, .lst (SqL.of upd_same) .nil, PySem.W.shaped_ints cs, shaped_nil, _, rfl, ?_⟩
      rw [eqv_ints_nil]
      revert k1 k2 kk
      generalize L2.upd H1 q (.lst []) = H2
      intro k1 k2 kk
      refine ite2 (fun c2 => ?_) (fun c2 => ?_)
      · have hlen : 0 < cs.length := by cases cs with | nil => simp at c2 | cons x r => simp
        have hm := fmod_bounds (x := a) (m := ((cs.map V.int).length : Int)) (by rw [List.length_map]; omega)
        have hj : (a.fmod ((cs.map V.int).length : Int)).toNat < cs.length := by rw [List.length_map] at *; omega
        refine ⟨_, rfl, p, _, rfl, dget_cells k1, _, rfl, Or.inl ⟨_, rfl, _, rfl, p, _, rfl, dget_cells k1, _, _, rfl, Or.inl ⟨_, SqL.of k2, rfl⟩, _, _, rfl, rfl, (by rw [List.length_map]; omega), ?_⟩⟩
        refine ⟨c, _, _, V.int (cs[(a.fmod ((cs.map V.int).length : Int)).toNat]), rfl, rfl, SqL.of k2, ?_, ?_⟩
        · exact at_of (Int.toNat_of_nonneg hm.1).symm (by rw [List.getElem?_map, List.getElem?_eq_getElem hj]; rfl)
        · generalize cs[(a.fmod ((cs.map V.int).length : Int)).toNat] = x
          refine ⟨_, rfl, _, rfl, p, _, rfl, dget_cells k1, V.ref c, _, rfl, Or.inl ⟨_, SqL.of k2, rfl⟩, _, _, rfl, rfl, _, rfl, ite2 (fun c3 => ?_) (fun c3 => ?_)⟩
          · refine ⟨_, rfl, _, _, rfl, rfl, ⟨by decide, by decide, by decide⟩, _, _, rfl, rfl, _, rfl, ite2 (fun c4 => ?_) (fun c4 => ?_)⟩
            · have c4 : (10 : Int) ^ 18 ≤ x := by simpa using c4
              refine ⟨_, rfl, _, _, rfl, rfl, ⟨by decide, by decide, by decide⟩, _, _, rfl, rfl, _, rfl, _, _, rfl, rfl, ⟨m0, log_lt m0 m1⟩, _, rfl, p, _, rfl, dput_left k1, ?_⟩
              refine ⟨_, rfl, _, _, rfl, rfl, ⟨by decide, by decide, by decide⟩, _, _, rfl, rfl, Or.inl ⟨_, rfl, _, rfl, _, _, rfl, rfl, (by omega), ?_⟩⟩
              refine k _ _ (fmod_bounds m0).1 (fmod_bounds m0).2 ⟨a + 1, _, cs, ⟨upd_same, by rw [upd_ne ncp]; exact k2, h3, by omega, Int.ediv_nonneg ?_ (by omega)⟩, by omega⟩ (kk.trans kp_upd)
              show 0 ≤ x - 10 ^ 18
              omega
            · refine ⟨_, rfl, Or.inl ⟨_, rfl, _, _, rfl, rfl, (by show (2147483587 : Int) ≠ 0; decide), _, _, rfl, rfl, Or.inr ⟨by decide, by decide⟩, ?_⟩⟩
              refine ⟨_, rfl, _, _, rfl, rfl, Or.inl ⟨by decide, by decide⟩, _, rfl, _, _, rfl, rfl, Or.inr ⟨by omega, by omega⟩, ?_⟩
              refine ⟨_, _, rfl, rfl, _, rfl, _, _, rfl, rfl, Or.inl ⟨by decide, by decide⟩, _, _, rfl, rfl, _, _, rfl, rfl, ?_⟩
              refine ⟨_, rfl, Or.inl ⟨_, rfl, _, _, rfl, rfl, (by show (2147483629 : Int) ≠ 0; decide), ?_⟩⟩
              have hz := fmod_bounds (x := x.fmod 2147483587 * 48271 + 40014 * a * a + 59 * a + 17) (m := 2147483629) (by decide)
              refine ⟨_, rfl, _, rfl, _, _, rfl, rfl, _, _, rfl, rfl, Or.inl ⟨by omega, by omega⟩, Or.inl ⟨_, rfl, _, _, rfl, rfl, (by show (2147483549 : Int) ≠ 0; decide), ?_⟩⟩
              refine ⟨_, rfl, _, rfl, _, _, rfl, rfl, Or.inl ?_, Or.inl ⟨_, rfl, _, _, rfl, rfl, (by show (2147483579 : Int) ≠ 0; decide), _, _, rfl, rfl, ⟨by decide, by decide⟩, Or.inl ⟨_, rfl, _, rfl, _, _, rfl, rfl, (by omega), ?_⟩⟩⟩
              · have hy := fmod_bounds (x := (x.fmod 2147483587 * 48271 + 40014 * a * a + 59 * a + 17).fmod 2147483629 * ((x.fmod 2147483587 * 48271 + 40014 * a * a + 59 * a + 17).fmod 2147483629 + 69621)) (m := 2147483549) (by decide)
                exact ⟨by omega, by omega⟩
              exact k _ _ (fmod_bounds m0).1 (fmod_bounds m0).2 ⟨a + 1, l, cs, ⟨k1, k2, h3, by omega, h5⟩, by omega⟩ kk
          · refine ⟨_, rfl, Or.inl ⟨_, rfl, _, _, rfl, rfl, (by show (2147483587 : Int) ≠ 0; decide), _, _, rfl, rfl, Or.inr ⟨by decide, by decide⟩, ?_⟩⟩
            refine ⟨_, rfl, _, _, rfl, rfl, Or.inl ⟨by decide, by decide⟩, _, rfl, _, _, rfl, rfl, Or.inr ⟨by omega, by omega⟩, ?_⟩
            refine ⟨_, _, rfl, rfl, _, rfl, _, _, rfl, rfl, Or.inl ⟨by decide, by decide⟩, _, _, rfl, rfl, _, _, rfl, rfl, ?_⟩
            refine ⟨_, rfl, Or.inl ⟨_, rfl, _, _, rfl, rfl, (by show (2147483629 : Int) ≠ 0; decide), ?_⟩⟩
            have hz := fmod_bounds (x := x.fmod 2147483587 * 48271 + 40014 * a * a + 59 * a + 17) (m := 2147483629) (by decide)
            refine ⟨_, rfl, _, rfl, _, _, rfl, rfl, _, _, rfl, rfl, Or.inl ⟨by omega, by omega⟩, Or.inl ⟨_, rfl, _, _, rfl, rfl, (by show (2147483549 : Int) ≠ 0; decide), ?_⟩⟩
            refine ⟨_, rfl, _, rfl, _, _, rfl, rfl, Or.inl ?_, Or.inl ⟨_, rfl, _, _, rfl, rfl, (by show (2147483579 : Int) ≠ 0; decide), _, _, rfl, rfl, ⟨by decide, by decide⟩, Or.inl ⟨_, rfl, _, rfl, _, _, rfl, rfl, (by omega), ?_⟩⟩⟩
            · have hy := fmod_bounds (x := (x.fmod 2147483587 * 48271 + 40014 * a * a + 59 * a + 17).fmod 2147483629 * ((x.fmod 2147483587 * 48271 + 40014 * a * a + 59 * a + 17).fmod 2147483629 + 69621)) (m := 2147483549) (by decide)
              exact ⟨by omega, by omega⟩
            exact k _ _ (fmod_bounds m0).1 (fmod_bounds m0).2 ⟨a + 1, l, cs, ⟨k1, k2, h3, by omega, h5⟩, by omega⟩ kk
      · skip
        refine ⟨_, rfl, _, rfl, p, _, rfl, dget_cells k1, V.ref c, _, rfl, Or.inl ⟨_, SqL.of k2, rfl⟩, _, _, rfl, rfl, _, rfl, ite2 (fun c3 => ?_) (fun c3 => ?_)⟩
        · refine ⟨_, rfl, _, _, rfl, rfl, ⟨by decide, by decide, by decide⟩, _, _, rfl, rfl, _, rfl, ite2 (fun c4 => ?_) (fun c4 => ?_)⟩
          · have c4 : (10 : Int) ^ 18 ≤ 41 * a + 23 := by simpa using c4
            refine ⟨_, rfl, _, _, rfl, rfl, ⟨by decide, by decide, by decide⟩, _, _, rfl, rfl, _, rfl, _, _, rfl, rfl, ⟨m0, log_lt m0 m1⟩, _, rfl, p, _, rfl, dput_left k1, ?_⟩
            refine ⟨_, rfl, _, _, rfl, rfl, ⟨by decide, by decide, by decide⟩, _, _, rfl, rfl, Or.inl ⟨_, rfl, _, rfl, _, _, rfl, rfl, (by omega), ?_⟩⟩
            refine k _ _ (fmod_bounds m0).1 (fmod_bounds m0).2 ⟨a + 1, _, cs, ⟨upd_same, by rw [upd_ne ncp]; exact k2, h3, by omega, Int.ediv_nonneg ?_ (by omega)⟩, by omega⟩ (kk.trans kp_upd)
            show 0 ≤ 41 * a + 23 - 10 ^ 18
            omega
          · refine ⟨_, rfl, Or.inl ⟨_, rfl, _, _, rfl, rfl, (by show (2147483587 : Int) ≠ 0; decide), _, _, rfl, rfl, Or.inr ⟨by decide, by decide⟩, ?_⟩⟩
            refine ⟨_, rfl, _, _, rfl, rfl, Or.inl ⟨by decide, by decide⟩, _, rfl, _, _, rfl, rfl, Or.inr ⟨by omega, by omega⟩, ?_⟩
            refine ⟨_, _, rfl, rfl, _, rfl, _, _, rfl, rfl, Or.inl ⟨by decide, by decide⟩, _, _, rfl, rfl, _, _, rfl, rfl, ?_⟩
            refine ⟨_, rfl, Or.inl ⟨_, rfl, _, _, rfl, rfl, (by show (2147483629 : Int) ≠ 0; decide), ?_⟩⟩
            have hz := fmod_bounds (x := (41 * a + 23).fmod 2147483587 * 48271 + 40014 * a * a + 59 * a + 17) (m := 2147483629) (by decide)
            refine ⟨_, rfl, _, rfl, _, _, rfl, rfl, _, _, rfl, rfl, Or.inl ⟨by omega, by omega⟩, Or.inl ⟨_, rfl, _, _, rfl, rfl, (by show (2147483549 : Int) ≠ 0; decide), ?_⟩⟩
            refine ⟨_, rfl, _, rfl, _, _, rfl, rfl, Or.inl ?_, Or.inl ⟨_, rfl, _, _, rfl, rfl, (by show (2147483579 : Int) ≠ 0; decide), _, _, rfl, rfl, ⟨by decide, by decide⟩, Or.inl ⟨_, rfl, _, rfl, _, _, rfl, rfl, (by omega), ?_⟩⟩⟩
            · have hy := fmod_bounds (x := ((41 * a + 23).fmod 2147483587 * 48271 + 40014 * a * a + 59 * a + 17).fmod 2147483629 * (((41 * a + 23).fmod 2147483587 * 48271 + 40014 * a * a + 59 * a + 17).fmod 2147483629 + 69621)) (m := 2147483549) (by decide)
              exact ⟨by omega, by omega⟩
            exact k _ _ (fmod_bounds m0).1 (fmod_bounds m0).2 ⟨a + 1, l, cs, ⟨k1, k2, h3, by omega, h5⟩, by omega⟩ kk
        · refine ⟨_, rfl, Or.inl ⟨_, rfl, _, _, rfl, rfl, (by show (2147483587 : Int) ≠ 0; decide), _, _, rfl, rfl, Or.inr ⟨by decide, by decide⟩, ?_⟩⟩
          refine ⟨_, rfl, _, _, rfl, rfl, Or.inl ⟨by decide, by decide⟩, _, rfl, _, _, rfl, rfl, Or.inr ⟨by omega, by omega⟩, ?_⟩
          refine ⟨_, _, rfl, rfl, _, rfl, _, _, rfl, rfl, Or.inl ⟨by decide, by decide⟩, _, _, rfl, rfl, _, _, rfl, rfl, ?_⟩
          refine ⟨_, rfl, Or.inl ⟨_, rfl, _, _, rfl, rfl, (by show (2147483629 : Int) ≠ 0; decide), ?_⟩⟩
          have hz := fmod_bounds (x := (41 * a + 23).fmod 2147483587 * 48271 + 40014 * a * a + 59 * a + 17) (m := 2147483629) (by decide)
          refine ⟨_, rfl, _, rfl, _, _, rfl, rfl, _, _, rfl, rfl, Or.inl ⟨by omega, by omega⟩, Or.inl ⟨_, rfl, _, _, rfl, rfl, (by show (2147483549 : Int) ≠ 0; decide), ?_⟩⟩
          refine ⟨_, rfl, _, rfl, _, _, rfl, rfl, Or.inl ?_, Or.inl ⟨_, rfl, _, _, rfl, rfl, (by show (2147483579 : Int) ≠ 0; decide), _, _, rfl, rfl, ⟨by decide, by decide⟩, Or.inl ⟨_, rfl, _, rfl, _, _, rfl, rfl, (by omega), ?_⟩⟩⟩
          · have hy := fmod_bounds (x := ((41 * a + 23).fmod 2147483587 * 48271 + 40014 * a * a + 59 * a + 17).fmod 2147483629 * (((41 * a + 23).fmod 2147483587 * 48271 + 40014 * a * a + 59 * a + 17).fmod 2147483629 + 69621)) (m := 2147483549) (by decide)
            exact ⟨by omega, by omega⟩
          exact k _ _ (fmod_bounds m0).1 (fmod_bounds m0).2 ⟨a + 1, l, cs, ⟨k1, k2, h3, by omega, h5⟩, by omega⟩ kk
/-- the draw, as its callers have it -/
structure TxtD (K : PySem.W.Frag) (mg : Str → Option Value) (fD : Addr) : Prop extends TxtA K mg where
  m_law_draw : mg "_law_draw" = some (.ref fD)
  k_law_draw : PySem.W.keepIn K (.ref fD) = true
abbrev s__law_pick : Stmt := top 20
abbrev N__law_pick : List Str := ["_law_pen_here", "_law_items"]
abbrev P__law_pick : List Str := ["_law_pen_here", "_law_items"]
theorem sc__law_pick : FnScope N__law_pick P__law_pick (defScope s__law_pick) := ⟨rfl, rfl, rfl, by decide +kernel, rfl, by decide +kernel, by decide +kernel⟩

theorem ok_pickL {f fD : Addr} {fd fdD : FuncData} (F : Fun K "_law_pick" "_law_pick" s__law_pick f fd) (T : TxtD K mg fD) (FD : Fun K "_law_draw" "_law_draw" s__law_draw fD fdD) (b_law_draw : Binds K fdD P__law_draw []) : FnOk P w K mg base CX0 2 f fd P__law_pick (spPickL K) := by
  have G_law_draw : FnOk P w K mg base CX0 1 fD fdD P__law_draw spDraw := ok_draw FD T.toTxtA
  refine F.ok sc__law_pick (fun vs H Q E h => ?_) (fun cdv A outer s H vs Q E hr h => ?_)
  · obtain ⟨p, c, a, xs, n, rfl, _⟩ := h
    rfl
  · obtain ⟨p, c, a, xs, n, rfl, hp, hn, hS, h0, h1, k⟩ := h
    refine ⟨_, (pss_one (ps_ret (pe_ix ix_list (pv 1) (pe_call G_law_draw (hr.mono (by decide)) (by rfl) T.m_law_draw T.k_law_draw b_law_draw .nil pass0 (pa_cons (pv 0) (pa_cons (pe_callB call_len (by rfl) T.len PySem.boot_len (pa_cons (pv 1) pa_nil)) pa_nil))) (fun _ _ => rfl)))), ?_⟩
    refine ⟨_, rfl, _, rfl, _, rfl, _, _, rfl, Or.inl ⟨_, hS, rfl⟩, p, c, _, n, rfl, hp, hn, by omega, by omega, fun d H' d0 d1 hp' kk => ?_⟩
    obtain ⟨kvs, hd⟩ := hp.dk
    have hj : d.toNat < xs.length := by omega
    exact ⟨a, xs, d, _, rfl, rfl, kp_seq kk hd hS, at_of (Int.toNat_of_nonneg d0).symm (List.getElem?_eq_getElem hj), k _ _ _ (List.getElem?_eq_getElem hj) hp' kk⟩
theorem ok_pickS {f fD : Addr} {fd fdD : FuncData} (F : Fun K "_law_pick" "_law_pick" s__law_pick f fd) (T : TxtD K mg fD) (FD : Fun K "_law_draw" "_law_draw" s__law_draw fD fdD) (b_law_draw : Binds K fdD P__law_draw []) : FnOk P w K mg base CX0 2 f fd P__law_pick spPickS := by
  have G_law_draw : FnOk P w K mg base CX0 1 fD fdD P__law_draw spDraw := ok_draw FD T.toTxtA
  refine F.ok sc__law_pick (fun vs H Q E h => ?_) (fun cdv A outer s H vs Q E hr h => ?_)
  · obtain ⟨p, c, z, n, rfl, _⟩ := h
    rfl
  · obtain ⟨p, c, z, n, rfl, hp, hn, h0, h1, k⟩ := h
    refine ⟨_, (pss_one (ps_ret (pe_ix ix_str (pv 1) (pe_call G_law_draw (hr.mono (by decide)) (by rfl) T.m_law_draw T.k_law_draw b_law_draw .nil pass0 (pa_cons (pv 0) (pa_cons (pe_callB call_len (by rfl) T.len PySem.boot_len (pa_cons (pv 1) pa_nil)) pa_nil))) (fun _ _ => rfl)))), ?_⟩
    have hz : z.length ≤ sizeLine := Nat.le_of_lt (small1000 h1)
    refine ⟨_, rfl, _, rfl, _, rfl, _, _, rfl, ⟨hz, rfl⟩, p, c, _, n, rfl, hp, hn, by omega, by omega, fun d H' d0 d1 hp' kk => ?_⟩
    have hj : d.toNat < (TL.tl z).length := by rw [← TL.len_tl]; omega
    exact ⟨z, d, _, rfl, rfl, hz, at_of' (Int.toNat_of_nonneg d0).symm (List.getElem?_eq_getElem hj), k _ _ _ (List.getElem?_eq_getElem hj) hp' kk⟩
end
end Vf
set_option Elab.async false
set_option linter.all false
set_option maxRecDepth 100000
set_option maxHeartbeats 4000000
/-! nested data -/
namespace Vf
open PySem L2 PyProof.Rows
def Dat : HO → Prop
  | .lst _ => True
  | .tup _ => True
  | .frz _ _ => True
  | _ => False
/-- lists and tuples stand as they stood -/
def Kl (H H' : Hp) : Prop := ∀ b o, H b = some o → Dat o → H' b = some o
theorem Kl.refl (H : Hp) : Kl H H := fun _ _ e _ => e
theorem Kl.trans {H H1 H2 : Hp} (a : Kl H H1) (b : Kl H1 H2) : Kl H H2 := fun c o e d => b c o (a c o e d) d
theorem Kl.same {H H' : Hp} (s : Same H H') : Kl H H' := fun b o e _ => s b o e
theorem Kl.kp {H H' : Hp} {p : Addr} {kvs : List (Key × V)} (k : Kp p H H') (hp : H p = some (.dK kvs)) : Kl H H' := fun b o e d => k b o e fun z => by
  rw [z, hp] at e
  cases e
  exact d
theorem Kl.del {H H' : Hp} (k : Kl H H') (a : Addr) : Kl (L2.del H a) (L2.del H' a) := fun b o e d => by
  by_cases hb : b = a
  · rw [hb, del_same] at e; cases e
  · rw [del_ne hb] at e ⊢
    exact k b o e d
theorem Kl.undel (H : Hp) (a : Addr) : Kl (L2.del H a) H := fun b o e d => by
  by_cases hb : b = a
  · rw [hb, del_same] at e; cases e
  · rw [del_ne hb] at e
    exact e
theorem del_upd (H : Hp) (a : Addr) (o : HO) : L2.del (L2.upd H a o) a = L2.del H a := by
  funext b
  by_cases hb : b = a
  · rw [hb, del_same, del_same]
  · rw [del_ne hb, del_ne hb, upd_ne hb]
theorem Kl.rd {H H' : Hp} {a : Addr} {u : HO} (k : Kl H H') (d : Dat u) (h : Rd H a u) : Rd H' a u := by
  rcases h with h | ⟨o, h⟩
  · exact .inl (k _ _ h d)
  · exact .inr ⟨o, k _ _ h trivial⟩
theorem Kl.seq {K : PySem.W.Frag} {H H' : Hp} {a : Addr} {xs : List V} (k : Kl H H') (h : SqL K H a xs) : SqL K H' a xs := by
  rcases h with h | h
  · exact .inl (k.rd trivial h)
  · exact .inr h
theorem Kl.seqT {K : PySem.W.Frag} {H H' : Hp} {a : Addr} {xs : List V} (k : Kl H H') (h : SqT K H a xs) : SqT K H' a xs := by
  rcases h with h | h
  · exact .inl (k.rd trivial h)
  · exact .inr h
end Vf
namespace L2
open PySem PyProof.Rows Vf
mutual
theorem Dp.kl {K : PySem.W.Frag} {H H' : Hp} (k : Kl H H') : ∀ (d : PyData) (v : V), Dp K H v d → Dp K H' v d
  | .none, _, h => by cases h; exact .non
  | .bool b, _, h => by cases h; exact .bl b
  | .int i, _, h => by cases h; exact .int i
  | .str x, _, h => by cases h; exact .str x
  | .list ds, _, h => by
    cases h with
    | lst a b => exact .lst (k.seq a) (DpAll.kl k ds _ b)
  | .tuple ds, _, h => by
    cases h with
    | tup a b => exact .tup (k.seqT a) (DpAll.kl k ds _ b)
  | .dict kvs, _, h => by cases h
theorem DpAll.kl {K : PySem.W.Frag} {H H' : Hp} (k : Kl H H') : ∀ (ds : List PyData) (vs : List V), DpAll K H vs ds → DpAll K H' vs ds
  | [], _, h => by cases h; exact .nil
  | d :: ds, _, h => by
    cases h with
    | cons a b => exact .cons (Dp.kl k d _ a) (DpAll.kl k ds _ b)
end
theorem Dp.mv {K : PySem.W.Frag} {H H' : Hp} {v : V} {d : PyData} (h : Dp K H v d) (k : Kl H H') : Dp K H' v d := Dp.kl k d v h
theorem DpAll.mv {K : PySem.W.Frag} {H H' : Hp} {vs : List V} {ds : List PyData} (h : DpAll K H vs ds) (k : Kl H H') : DpAll K H' vs ds := DpAll.kl k ds vs h
theorem DpAll.length {K : PySem.W.Frag} {H : Hp} : ∀ {vs : List V} {ds : List PyData}, DpAll K H vs ds → vs.length = ds.length
  | _, _, .nil => rfl
  | _, _, .cons _ t => congrArg Nat.succ (DpAll.length t)
theorem DpAll.get {K : PySem.W.Frag} {H : Hp} : ∀ {vs : List V} {ds : List PyData} {i : Nat} {d : PyData}, DpAll K H vs ds → ds[i]? = some d → ∃ v, vs[i]? = some v ∧ Dp K H v d
  | _, _, _, _, .nil, e => by simp at e
  | _, _, 0, _, .cons h t, e => by simp at e; subst e; exact ⟨_, rfl, h⟩
  | _, _, i + 1, d, .cons h t, e => by
    obtain ⟨v, h1, h2⟩ := DpAll.get (i := i) (d := d) t (by simpa using e)
    exact ⟨v, by simpa using h1, h2⟩
theorem DpAll.append {K : PySem.W.Frag} {H : Hp} : ∀ {vs ws : List V} {ds es : List PyData}, DpAll K H vs ds → DpAll K H ws es → DpAll K H (vs ++ ws) (ds ++ es)
  | _, _, _, _, .nil, h => h
  | _, _, _, _, .cons a t, h => .cons a (DpAll.append t h)
theorem DpAll.snoc {K : PySem.W.Frag} {H : Hp} {vs : List V} {v : V} {ds : List PyData} {d : PyData} (h : DpAll K H vs ds) (g : Dp K H v d) : DpAll K H (vs ++ [v]) (ds ++ [d]) := h.append (.cons g .nil)
theorem DpAll.take {K : PySem.W.Frag} {H : Hp} : ∀ {vs : List V} {ds : List PyData} (n : Nat), DpAll K H vs ds → DpAll K H (vs.take n) (ds.take n)
  | _, _, 0, _ => .nil
  | _, _, n + 1, .nil => .nil
  | _, _, n + 1, .cons a t => .cons a (DpAll.take n t)
theorem DpAll.drop {K : PySem.W.Frag} {H : Hp} : ∀ {vs : List V} {ds : List PyData} (n : Nat), DpAll K H vs ds → DpAll K H (vs.drop n) (ds.drop n)
  | _, _, 0, h => h
  | _, _, n + 1, .nil => .nil
  | _, _, n + 1, .cons a t => DpAll.drop n t
theorem Dp.listE {K : PySem.W.Frag} {H : Hp} {v : V} {ds : List PyData} (h : Dp K H v (.list ds)) : ∃ a xs, v = .ref a ∧ SqL K H a xs ∧ DpAll K H xs ds := by
  cases h with
  | lst a b => exact ⟨_, _, rfl, a, b⟩
theorem Dp.tupE {K : PySem.W.Frag} {H : Hp} {v : V} {ds : List PyData} (h : Dp K H v (.tuple ds)) : ∃ a xs, v = .ref a ∧ SqT K H a xs ∧ DpAll K H xs ds := by
  cases h with
  | tup a b => exact ⟨_, _, rfl, a, b⟩
theorem Dp.intE {K : PySem.W.Frag} {H : Hp} {v : V} {i : Int} (h : Dp K H v (.int i)) : v = .int i := by
  cases h; rfl
theorem Dp.strE {K : PySem.W.Frag} {H : Hp} {v : V} {i : Str} (h : Dp K H v (.str i)) : v = .str i := by
  cases h; rfl
theorem dpAll_ints (K : PySem.W.Frag) (H : Hp) : ∀ cs : List Int, DpAll K H (cs.map V.int) (cs.map PyData.int)
  | [] => .nil
  | c :: r => .cons (.int c) (dpAll_ints K H r)
theorem dpAll_intsE {K : PySem.W.Frag} {H : Hp} : ∀ {cs : List Int} {vs : List V}, DpAll K H vs (cs.map PyData.int) → vs = cs.map V.int
  | [], _, h => by cases h; rfl
  | c :: r, _, h => by
    cases h with
    | cons a b => rw [a.intE, dpAll_intsE b]; rfl
theorem dpAll_strs (K : PySem.W.Frag) (H : Hp) : ∀ cs : List Str, DpAll K H (cs.map V.str) (cs.map PyData.str)
  | [] => .nil
  | c :: r => .cons (.str c) (dpAll_strs K H r)
theorem dpAll_strsE {K : PySem.W.Frag} {H : Hp} : ∀ {cs : List Str} {vs : List V}, DpAll K H vs (cs.map PyData.str) → vs = cs.map V.str
  | [], _, h => by cases h; rfl
  | c :: r, _, h => by
    cases h with
    | cons a b => rw [a.strE, dpAll_strsE b]; rfl
end L2
namespace Vf
open PySem L2 PyProof.Rows
/-! a code's data -/
abbrev Row := List (Int × Int)
def tupD (gb : Int × Int) : PyData := .tuple [.int gb.1, .int gb.2]
def rowD (r : Row) : PyData := .list (r.map tupD)
def rowT (r : Row) : PyData := .tuple (r.map tupD)
def rowsD (rs : List Row) : PyData := .list (rs.map rowD)
def rowsT (rs : List Row) : PyData := .tuple (rs.map rowT)
def intsD (es : List Int) : PyData := .list (es.map PyData.int)
def intsT (es : List Int) : PyData := .tuple (es.map PyData.int)
def codeD (z : Str) (rs : List Row) (es : List Int) : PyData := .tuple [.str z, rowsD rs, intsD es]
/-- rows and ends of a code with so many values -/
structure Good (m : Nat) (rs : List Row) (es : List Int) : Prop where
  len : es.length = rs.length
  pos : 0 < rs.length
  row : ∀ r ∈ rs, r.length = m ∧ ∀ gb ∈ r, 0 ≤ gb.1 ∧ gb.1 < rs.length ∧ 0 ≤ gb.2 ∧ gb.2 < 100
  ends : ∀ e ∈ es, 0 ≤ e ∧ e < 100
theorem del_some {H : Hp} {a b : Addr} {o : HO} (e : L2.del H a b = some o) : b ≠ a ∧ H b = some o := by
  by_cases hb : b = a
  · rw [hb, del_same] at e; cases e
  · rw [del_ne hb] at e
    exact ⟨hb, e⟩
/-- a row of a code of c states -/
def RowOk (m : Nat) (c : Int) (r : Row) : Prop := r.length = m ∧ ∀ gb ∈ r, 0 ≤ gb.1 ∧ gb.1 < c ∧ 0 ≤ gb.2 ∧ gb.2 < 100
/-- a comprehension without a test -/
theorem lcYes {σ : L2.St} {H : Hp} {A B : Hp → Prop} (h : A H) : tYes σ H (fun b H' => if b = true then A H' else B H') := by
  show (if true = true then A H else B H)
  rw [if_pos rfl]
  exact h
end Vf
namespace L2
theorem Same.put {H H' : Hp} {r : PySem.Addr} {o : HO} (s : Same H H') (h : H r = none) : Same H (upd H' r o) := fun b u e => by
  rw [upd_ne (ne_of_none e h)]
  exact s b u e
end L2
set_option Elab.async false
set_option linter.all false
set_option maxRecDepth 100000
set_option maxHeartbeats 4000000
namespace Vf
open PySem L2 PyProof.Rows
section
variable {P : Program} {w : World} {K : PySem.W.Frag} {mg : Str → Option Value} {base : Heap}
/-- the pick too -/
structure TxtP (K : PySem.W.Frag) (mg : Str → Option Value) (fD fP : Addr) : Prop extends TxtD K mg fD where
  m_law_pick : mg "_law_pick" = some (.ref fP)
  k_law_pick : PySem.W.keepIn K (.ref fP) = true
abbrev s__law_letters : Stmt := top 21
abbrev N__law_letters : List Str := ["_law_pen_here", "_law_many", "_law_left", "_law_found", "_law_turn", "_law_at"]
abbrev P__law_letters : List Str := ["_law_pen_here", "_law_many"]
theorem sc__law_letters : FnScope N__law_letters P__law_letters (defScope s__law_letters) := ⟨rfl, rfl, rfl, by decide +kernel, rfl, by decide +kernel, by decide +kernel⟩

theorem ok_letters {f fD : Addr} {fd fdD : FuncData} (F : Fun K "_law_letters" "_law_letters" s__law_letters f fd) (T : TxtD K mg fD) (FD : Fun K "_law_draw" "_law_draw" s__law_draw fD fdD) (b_law_draw : Binds K fdD P__law_draw []) : FnOk P w K mg base CX0 2 f fd P__law_letters spLetters := by
  have G_law_draw : FnOk P w K mg base CX0 1 fD fdD P__law_draw spDraw := ok_draw FD T.toTxtA
  refine F.ok sc__law_letters (fun vs H Q E h => ?_) (fun cdv A outer s H vs Q E hr h => ?_)
  · obtain ⟨p, c, m, n, rfl, _⟩ := h
    rfl
  · obtain ⟨p, c, m, n, rfl, hp, hn, hm, k⟩ := h
    refine ⟨_, (pss_cons (ps_par (i := 2) (j := 3) (by rfl) sc__law_letters.nd rfl rfl (by decide) rfl rfl (pa_cons pe_str (pa_cons (pe_lst pa_nil) pa_nil)) (by rfl))
      (pss_cons (ps_for PassesOwn.never rfl (pi_range1 (by rfl) T.range (pa_cons (pv 1) pa_nil)) (pg_name (i := 4) sc__law_letters.nd rfl (Or.inl rfl)) (pss_cons (ps_set (i := 5) sc__law_letters.nd rfl (Or.inl rfl) (pe_call G_law_draw (hr.mono (by decide)) (by rfl) T.m_law_draw T.k_law_draw b_law_draw .nil pass0 (pa_cons (pv 0) (pa_cons (pe_callB call_len (by rfl) T.len PySem.boot_len (pa_cons (pv 2) pa_nil)) pa_nil))))
      (pss_cons (ps_set (i := 3) sc__law_letters.nd rfl (Or.inl rfl) (pe_op op_cat (pv 3) (pe_lst (pa_cons (pe_ix ix_str (pv 2) (pv 5) (fun _ _ => rfl)) pa_nil))))
      (pss_one (ps_set (i := 2) sc__law_letters.nd rfl (Or.inl rfl) (pe_op op_add_str (pe_slice sl_str (pv 2) po_none (po_some (pv 5))) (pe_slice sl_str (pv 2) (po_some (pe_op op_add (pv 5) pe_int)) po_none)))))))
      (pss_one (ps_ret (pe_join pe_str (pe_callB cr_sortedS (by rfl) T.sorted boot_sorted (pa_cons (pv 3) pa_nil))))))), ?_⟩
    refine ⟨by show 0 ≤ sizeLine; decide, fun F0 hF => ⟨_, _, rfl, ?_⟩⟩
    have hFp : F0 ≠ p := by
      obtain ⟨kvs, hd⟩ := hp.dk
      exact (ne_of_none hd hF).symm
    refine ⟨_, rfl, (m : Int), rfl, by omega, by omega, for_range (n := m) (fun i σ H1 => ∃ (F1 : Addr) (L : Str) (fs : List Nat) (v4 v5 : Option V), σ = [some (.ref p), some (.int m), some (.str L), some (.ref F1), v4, v5] ∧
      H1 F1 = some (.lst ((fs.map sg).map V.str)) ∧ fs.length = i ∧ (fs ++ TL.tl L).Perm alpha ∧ Pen H1 p c (n + i) ∧ Kp p H H1)
      ⟨F0, _, [], none, none, rfl, upd_same, rfl, List.Perm.refl _, hp.same (same_new hF), Kp.of (same_new hF)⟩ ?_ ?_⟩
    · rintro i σ H1 hi ⟨F1, L, fs, v4, v5, rfl, hF1, hlen, hperm, hp1, kk⟩
      have hL : L.length = 26 - i := by
        have := hperm.length_eq
        rw [List.length_append, alpha_len, ← TL.len_tl] at this
        omega
      have hLz : L.length ≤ sizeLine := Nat.le_of_lt (small1000 (by omega))
      refine ⟨_, rfl, _, rfl, _, _, rfl, ⟨hLz, rfl⟩, p, c, _, n + i, rfl, hp1, by omega, by omega, by omega, fun d H2 d0 d1 hp2 kk2 => ?_⟩
      have hj : d.toNat < (TL.tl L).length := by rw [← TL.len_tl]; omega
      have hF2 : H2 F1 = some (.lst ((fs.map sg).map V.str)) := by
        obtain ⟨kvs, hd⟩ := hp1.dk
        exact kk2 _ _ hF1 (ne_of hF1 hd (by intro z; cases z))
      have ed : d = (d.toNat : Int) := (Int.toNat_of_nonneg d0).symm
      refine ⟨_, rfl, _, rfl, _, rfl, L, d, _, rfl, rfl, hLz, at_of' ed (List.getElem?_eq_getElem hj), (by show 1 ≤ sizeLine; decide), fun q hq => ?_⟩
      have s2 : Same H2 (L2.upd H2 q (.lst [V.str (sg (TL.tl L)[d.toNat])])) := same_new hq
      refine ⟨F1, q, _, _, rfl, rfl, s2 _ _ hF2, upd_same, (by rw [List.length_map, List.length_map]; show fs.length + 1 ≤ sizeLine; exact Nat.le_of_lt (small1000 (by omega))), fun r hr2 => ?_⟩
      have s3 : Same H2 (L2.upd (L2.upd H2 q (.lst [V.str (sg (TL.tl L)[d.toNat])])) r (.lst ((fs.map sg).map V.str ++ [V.str (sg (TL.tl L)[d.toNat])]))) := s2.trans (same_new hr2)
      -- left = left[:at] + left[at + 1:]
      have hjl : d.toNat < L.length := by omega
      have t1 : TL.tl (cutS L none (some d)) = (TL.tl L).take d.toNat := by rw [ed]; exact cut_to (by omega)
      have t2 : TL.tl (cutS L (some (d + 1)) none) = (TL.tl L).drop (d.toNat + 1) := by
        have e1 : d + 1 = ((d.toNat + 1 : Nat) : Int) := by omega
        rw [e1]; exact cut_from (by omega)
      refine ⟨_, rfl, _, rfl, d, rfl, L, rfl, hLz, _, rfl, _, rfl, _, _, rfl, rfl, _, rfl, L, rfl, hLz, _, _, rfl, rfl, ?_, ?_⟩
      · rw [TL.len_tl, TL.len_tl, t1, t2, List.length_take, List.length_drop, ← TL.len_tl, sizeLine_eq]
        rw [sizeLine_eq] at hLz
        omega
      · refine ⟨r, _, fs ++ [(TL.tl L)[d.toNat]], _, _, rfl, ?_, ?_, ?_, ?_, ?_⟩
        · rw [upd_same, List.map_append, List.map_append]; rfl
        · rw [List.length_append, hlen]; rfl
        · rw [TL.tl_append, t1, t2]
          have e2 : (TL.tl L).take d.toNat ++ ((TL.tl L)[d.toNat]'hj) :: (TL.tl L).drop (d.toNat + 1) = TL.tl L := by
            rw [← List.drop_eq_getElem_cons hj, List.take_append_drop]
          refine List.Perm.trans ?_ hperm
          conv => rhs; rw [← e2]
          rw [List.append_assoc]
          exact List.Perm.append_left _ (List.perm_middle (a := (TL.tl L)[d.toNat]'hj) (l₁ := (TL.tl L).take d.toNat) (l₂ := (TL.tl L).drop (d.toNat + 1))).symm
        · exact hp2.same s3
        · exact kk.trans (kk2.trans (Kp.of s3))
    · rintro σ H1 ⟨F1, L, fs, v4, v5, rfl, hF1, hlen, hperm, hp1, kk⟩
      refine ⟨⟨_, rfl⟩, _, rfl, F1, fs.map sg, rfl, SqL.of hF1, by rw [List.length_map]; omega, fun ys q hperm2 hsort hq => ?_⟩
      obtain ⟨ds, rfl, hd⟩ := perm_sg hperm2
      have hl := ltr_of hperm hd (sorted_sg hsort)
      have hdl : ds.length = m := hd.length_eq.trans hlen
      refine ⟨_, q, ds.map sg, rfl, rfl, Or.inl (SqL.of upd_same), ?_, ?_⟩
      · rw [sum_sg]
        show ds.length + (ds.map sg).length * 0 ≤ 16777216
        omega
      · have e : TL.tl (Txt.join (Str.ofString "") (ds.map sg)) = ds := join_sg ds
        refine k _ _ ⟨by rw [TL.len_tl, e]; exact hdl, by rw [e]; exact hl.1, by rw [e]; exact hl.2⟩ (hp1.same (same_new hq)) (kk.trans (Kp.of (same_new hq)))
abbrev s__law_bits : Stmt := top 22
abbrev N__law_bits : List Str := ["_law_pen_here"]
abbrev P__law_bits : List Str := ["_law_pen_here"]
theorem sc__law_bits : FnScope N__law_bits P__law_bits (defScope s__law_bits) := ⟨rfl, rfl, rfl, by decide +kernel, rfl, by decide +kernel, by decide +kernel⟩

theorem ok_bits {f fD fP : Addr} {fd fdD fdP : FuncData} (F : Fun K "_law_bits" "_law_bits" s__law_bits f fd) (T : TxtP K mg fD fP) (FD : Fun K "_law_draw" "_law_draw" s__law_draw fD fdD) (b_law_draw : Binds K fdD P__law_draw [])
    (FP : Fun K "_law_pick" "_law_pick" s__law_pick fP fdP) (b_law_pick : Binds K fdP P__law_pick []) : FnOk P w K mg base CX0 3 f fd P__law_bits spBits := by
  have G_law_draw : FnOk P w K mg base CX0 1 fD fdD P__law_draw spDraw := ok_draw FD T.toTxtA
  have G_law_pick : FnOk P w K mg base CX0 2 fP fdP P__law_pick (spPickL K) := ok_pickL FP T.toTxtD FD b_law_draw
  refine F.ok sc__law_bits (fun vs H Q E h => ?_) (fun cdv A outer s H vs Q E hr h => ?_)
  · obtain ⟨p, c, n, rfl, _⟩ := h
    rfl
  · obtain ⟨p, c, n, rfl, hp, hn, k⟩ := h
    refine ⟨_, (pss_one (ps_ret (pe_call G_law_pick (hr.mono (by decide)) (by rfl) T.m_law_pick T.k_law_pick b_law_pick .nil pass0 (pa_cons (pv 0) (pa_cons (pe_lst (pa_cons pe_int (pa_cons pe_int (pa_cons pe_int (pa_cons pe_int (pa_cons pe_int (pa_cons pe_int (pa_cons pe_int (pa_cons pe_int (pa_cons (pe_call G_law_draw (hr.mono (by decide)) (by rfl) T.m_law_draw T.k_law_draw b_law_draw .nil pass0 (pa_cons (pv 0) (pa_cons pe_int pa_nil))) (pa_cons (pe_call G_law_draw (hr.mono (by decide)) (by rfl) T.m_law_draw T.k_law_draw b_law_draw .nil pass0 (pa_cons (pv 0) (pa_cons pe_int pa_nil))) pa_nil))))))))))) pa_nil))))), ?_⟩
    refine ⟨_, rfl, _, rfl, p, c, _, n, rfl, hp, by omega, by decide, by decide, fun x H1 x0 x1 hp1 k1 => ?_⟩
    refine ⟨_, rfl, p, c, _, n + 1, rfl, hp1, by omega, by decide, by decide, fun y H2 y0 y1 hp2 k2 => ⟨by show 10 ≤ sizeLine; decide, fun q hq => ?_⟩⟩
    refine ⟨p, c, q, _, n + 2, rfl, hp2.same (same_new hq), by omega, SqL.of upd_same, (by show 0 < 10; decide), (by show 10 ≤ 1000; decide), fun j v H3 hv hp3 k3 => ?_⟩
    have kk : Kp p H H3 := (k1.trans k2).trans ((Kp.of (same_new hq)).trans k3)
    have hm := List.mem_of_getElem? hv
    simp only [List.mem_cons, List.not_mem_nil, or_false] at hm
    rcases hm with e | e | e | e | e | e | e | e | e | e <;> (subst e; exact k _ _ (by omega) (by omega) hp3 kk)
end
end Vf
set_option Elab.async false
set_option linter.all false
set_option maxRecDepth 100000
set_option maxHeartbeats 4000000
/-! for i, c in enumerate(text); walks of texts -/
namespace Vf
open PySem L2 PyProof.Rows
/-- the text x, each sign in a new pair with its place -/
def Itse (x : Str) : It :=
  ⟨fun i _ => i < x.cps.size, fun i H v H' => ∃ T c, v = .ref T ∧ H T = none ∧ H' = L2.upd H T (.tup [.int (i : Nat), .str (sg c)]) ∧ x.cps[i]? = some c, fun i _ => x.cps.size ≤ i⟩
theorem turn_enumS {P : Program} {w : World} {K : PySem.W.Frag} {elts : List Expr} {kk : Nat} {tpos : Pos} (x : Str) (t : Tok) (e it : Addr) :
    Turn P w K (.Tuple elts kk tpos) (Itse x) [e, it] e (fun i h => (∃ old, IsEnum h e it ((i : Nat) : Int) old) ∧ h.IsStrIter it (strIterType x) x t i ∧ e ≠ it ∧ i ≤ x.cps.size) where
  mem := by simp
  obj := fun i h st b hb => by
    obtain ⟨⟨old, he⟩, ⟨o, ho, hc, hd⟩, _⟩ := st
    have e' : b = e ∨ b = it := by simpa using hb
    rcases e' with z | z
    · rw [z]; exact ⟨_, he, fun v q => nomatch q⟩
    · rw [z]; exact ⟨o, ho, fun v q => by rw [hd] at q; cases q⟩
  keep := fun i h h' st k => let ⟨⟨old, he⟩, ⟨o, ho, r⟩, hne, hle⟩ := st; ⟨⟨old, k e (by simp) _ he⟩, ⟨o, k it (by simp) o ho, r⟩, hne, hle⟩
  item := by
    intro X hP hw hK hc i pins s σ H E I hf st hg
    subst hP hw hK
    obtain ⟨⟨old, he⟩, hit, hne, hle⟩ := st
    have hg : i < x.cps.size := hg
    have hel : e < s.heap.objs.size := Heap.lt_size he
    have hil : it < s.heap.objs.size := by obtain ⟨_, q, _⟩ := hit; exact Heap.lt_size q
    have D : Draws X.prog X.w X.A.in1 it [it] x.cps.size (fun i v => ∃ c u, x.cps[i]? = some c ∧ v = .str ⟨#[c]⟩ u) (fun i h => h.IsStrIter it (strIterType x) x t i) := Draws.text (A := X.A.in1) (show X.A.in1.handled = none from I.ok.hd hc) it x t
    refine wpAny_pyNext_enum_itemC D he hit hg hne (by simpa using hne) fun y h' tk hy ho hit' hT hsz hk => ?_
    obtain ⟨c, u, hcx, rfl⟩ := hy
    refine ⟨_, rfl, wpAny_letOwnedTupleGo_enum (s := { s with heap := h', toks := tk + 1 }) ho fun h'' he' sb => ?_⟩
    have hT2 : h''.get? s.heap.objs.size = some { cls := .type "tuple", data := .seq #[.int i tk, .str ⟨#[c]⟩ u] } := (sb.2 _ (Nat.ne_of_gt hel)).trans hT
    have new : ObjOk X.prog X.w (L2.upd H s.heap.objs.size (.tup [.int (i : Nat), .str (sg c)])) h'' s.heap.objs.size (.tup [.int (i : Nat), .str (sg c)]) :=
      ⟨by show 2 ≤ sizeLine; decide, [.int i tk, .str ⟨#[c]⟩ u], .cons ⟨_, rfl⟩ (.cons ⟨_, rfl⟩ .nil), ⟨_, hT2, rfl, _, rfl⟩⟩
    have I1 : Inv X pins σ (L2.upd H s.heap.objs.size (.tup [.int (i : Nat), .str (sg c)])) { s with heap := h'', toks := tk + 1 } :=
      I.turnedNew (ch := [e, it]) (fun b ob hb q => (sb.2 b (fun z => hb (by simp [z]))).trans (hk b ob (fun z => hb (by simp [z])) (fun z => hb (by simp [z])) q)) hf (Nat.le_refl _) new
    obtain ⟨oi, hoi, r⟩ := hit'
    refine ⟨.ref s.heap.objs.size, _, I1, rfl, ⟨_, c, rfl, I.hok.fresh (Nat.le_refl _), rfl, hcx⟩, ⟨⟨.str ⟨#[c]⟩ u, ?_⟩, ⟨oi, (sb.2 it (Ne.symm hne)).trans hoi, r⟩, hne, hg⟩, fun b hb => ?_⟩
    · have e1 : ((i + 1 : Nat) : Int) = (i : Int) + 1 := by omega
      rw [e1]; exact he'
    · have hb' : b < s.heap.objs.size := by
        have e' : b = e ∨ b = it := by simpa using hb
        rcases e' with z | z
        · rw [z]; exact hel
        · rw [z]; exact hil
      rw [upd_ne (Nat.ne_of_lt hb')]
      exact (hf b hb).1
  done := by
    intro X hP hw hK hc i pins s σ H E I hf st hg
    subst hP hw hK
    obtain ⟨⟨old, he⟩, hit, hne, hle⟩ := st
    have hg : x.cps.size ≤ i := hg
    have ei : i = x.cps.size := Nat.le_antisymm hle hg
    subst ei
    obtain ⟨f0, f1, f2, f3, f4, f5⟩ := hf it (by simp)
    have D : Draws X.prog X.w X.A.in1 it [it] x.cps.size (fun i v => ∃ c u, x.cps[i]? = some c ∧ v = .str ⟨#[c]⟩ u) (fun i h => h.IsStrIter it (strIterType x) x t i) := Draws.text (A := X.A.in1) (show X.A.in1.handled = none from I.ok.hd hc) it x t
    exact wpAny_pyNext_enum_endD D he hit fun h' eb => ⟨rfl, I.turned (t' := s.toks) (fun b o hb q => eb b o hb q) f0 f1 f3 f4 f5⟩
  self := fun A i s Q E st h => let ⟨⟨_, he⟩, _⟩ := st; wpAny_pyIter_enum he h
def iEnumS (ta : TA) : TI := fun σ H R => ta σ H fun vs H1 => ∃ z, vs = [.str z] ∧ R (Itse z) H1
theorem pi_enumS {X : Cx} {e : Expr} {ta : TA} {p pos tpos : Pos} {elts : List Expr} {kk : Nat} (hg : Gl X "enumerate") (hm : X.mg "enumerate" = none) (ha : PA X [e] ta) (hs : starEach [e] X.env = [(false, eval e X.env)] := by rfl) :
    PI X (.Tuple elts kk tpos) (.Call (.Name "enumerate" p) [e] [] pos) (iEnumS ta) := by
  refine ⟨fun pins s σ H R I h => ?_⟩
  refine Call_ (ld_blt I hg hm boot_enumerate (PyProof.Rows.callWith_type1 (thn (ha.run pos pins s σ H _ I h) fun us s1 ⟨vs, H1, I1, r1, q1⟩ => ?_) hs rfl))
  obtain ⟨x, ex, q⟩ := q1
  subst ex
  cases r1 with
  | cons r rr =>
    cases rr
    obtain ⟨t, rfl⟩ := r
    refine call_enumerate_str fun h' he hit hsz hk => wpAny_pyIter_enum he ?_
    have I2 : Inv X pins σ H1 { s1 with heap := h' } := I1.kept (t' := s1.toks) hk
    refine ⟨s1.heap.objs.size + 1, [s1.heap.objs.size + 1, s1.heap.objs.size], _, _, H1, rfl, I2, turn_enumS x t (s1.heap.objs.size + 1) s1.heap.objs.size, ⟨⟨.none, he⟩, hit, Nat.succ_ne_self _, Nat.zero_le _⟩, fun b hb => ?_, q⟩
    have e' : b = s1.heap.objs.size + 1 ∨ b = s1.heap.objs.size := by simpa using hb
    have hle : s1.heap.objs.size ≤ b := by
      rcases e' with z | z
      · rw [z]; exact Nat.le_add_right _ _
      · rw [z]; exact Nat.le_refl _
    exact I1.fpOk hle (I1.hok.fresh hle)
theorem walk_strS {z : Str} : Walk (Its z) z.length (fun _ => True) (fun i H v H' => H' = H ∧ ∃ c, (TL.tl z)[i]? = some c ∧ v = .str (sg c)) :=
  ⟨fun _ _ hi _ => hi, fun _ _ => Nat.le_refl _, fun i _ _ _ _ _ y => ⟨y.1, by obtain ⟨c, h, e⟩ := y.2; exact ⟨c, by simpa using h, e⟩⟩⟩
theorem walk_enumS {z : Str} : Walk (Itse z) z.length (fun _ => True) (fun i H v H' => ∃ T c, v = .ref T ∧ H T = none ∧ H' = L2.upd H T (.tup [.int (i : Nat), .str (sg c)]) ∧ (TL.tl z)[i]? = some c) :=
  ⟨fun _ _ hi _ => hi, fun _ _ => Nat.le_refl _, fun i _ _ _ _ _ y => by obtain ⟨T, c, h1, h2, h3, h4⟩ := y; exact ⟨T, c, h1, h2, h3, by simpa using h4⟩⟩
/-! rules with the written part named, for a comprehension's block -/
section
variable {X : Cx} {K : PySem.W.Frag} {tg : Expr}
def rTupOf (K : PySem.W.Frag) : List V → Hp → VK → Prop := fun xs H Q => ∃ p ys, xs = [.ref p] ∧ ((SqL K H p ys ∧ ∀ l, H l = none → Q (.ref l) (L2.upd H l (.tup ys))) ∨ (SqT K H p ys ∧ Q (.ref p) H))
def rLstOf (K : PySem.W.Frag) : List V → Hp → VK → Prop := fun xs H Q => ∃ p ys, xs = [.ref p] ∧ (SqL K H p ys ∨ SqT K H p ys) ∧ ∀ l, H l = none → Q (.ref l) (L2.upd H l (.lst ys))
def rLenOf (K : PySem.W.Frag) : List V → Hp → VK → Prop := fun xs H Q => ∃ x n, xs = [x] ∧ LenV K x H n ∧ Q (.int (n : Nat)) H
theorem call_tupleK (hK : X.K = K) : CallR X (.type "tuple") (rTupOf K) := by subst hK; exact call_tuple_of
theorem call_listK (hK : X.K = K) : CallR X (.type "list") (rLstOf K) := by subst hK; exact call_list_of
theorem call_lenK (hK : X.K = K) : CallR X (.builtin "len") (rLenOf K) := by subst hK; exact call_len
theorem pi_listK (hK : X.K = K) {l : Expr} {tl : TE} (hl : PE X l tl) : PI X tg l (iList K tl) := by subst hK; exact pi_list hl
theorem pi_tupK (hK : X.K = K) {l : Expr} {tl : TE} (hl : PE X l tl) : PI X tg l (iTup K tl) := by subst hK; exact pi_tup hl
theorem ix_listK (hK : X.K = K) : IxR X (rIxL K) := by subst hK; exact ix_list
theorem ix_tupK (hK : X.K = K) : IxR X (rIxT K) := by subst hK; exact ix_tup
end
theorem pi_or {X : Cx} {tg e : Expr} {w1 w2 : TI} (h1 : PI X tg e w1) (h2 : PI X tg e w2) : PI X tg e (fun σ H R => w1 σ H R ∨ w2 σ H R) :=
  ⟨fun pins s σ H R I h => h.elim (fun h => h1.run pins s σ H R I h) fun h => h2.run pins s σ H R I h⟩
end Vf
set_option Elab.async false
set_option linter.all false
set_option maxRecDepth 100000
set_option maxHeartbeats 4000000
namespace Vf
open PySem L2 PyProof.Rows
/-- a drawn code -/
def spCode (K : PySem.W.Frag) : Sp := fun vs H Q _ => ∃ (p c : Addr) (z : Str) (most : Int) (n : Nat), vs = [.ref p, .str z, .int most] ∧ Pen H p c n ∧ n ≤ 2 ^ 28 ∧ 1 ≤ most ∧ most ≤ 40 ∧ z.length ≤ 26 ∧
  ∀ (t : V) (rs : List Row) (es : List Int) (H' : Hp), Dp K H' t (codeD z rs es) → Good z.length rs es → (rs.length : Int) ≤ most → Pen H' p c (n + 5000) → Kp p H H' → Q t H'
/-- bits too -/
structure TxtB (K : PySem.W.Frag) (mg : Str → Option Value) (fD fP fB : Addr) : Prop extends TxtP K mg fD fP where
  m_law_bits : mg "_law_bits" = some (.ref fB)
  k_law_bits : PySem.W.keepIn K (.ref fB) = true
section
variable {P : Program} {w : World} {K : PySem.W.Frag} {mg : Str → Option Value} {base : Heap}
abbrev s__law_code : Stmt := top 23
abbrev N__law_code : List Str := ["_law_pen_here", "_law_letters_here", "_law_most", "_law_count", "_law_rows", "_law_state", "_law_row", "_law_letter", "_law_goal"]
abbrev P__law_code : List Str := ["_law_pen_here", "_law_letters_here", "_law_most"]
theorem sc__law_code : FnScope N__law_code P__law_code (defScope s__law_code) := ⟨rfl, rfl, rfl, by decide +kernel, rfl, by decide +kernel, by decide +kernel⟩

theorem ok_code {f fD fP fB : Addr} {fd fdD fdP fdB : FuncData} (F : Fun K "_law_code" "_law_code" s__law_code f fd) (T : TxtB K mg fD fP fB) (FD : Fun K "_law_draw" "_law_draw" s__law_draw fD fdD) (b_law_draw : Binds K fdD P__law_draw [])
    (FP : Fun K "_law_pick" "_law_pick" s__law_pick fP fdP) (b_law_pick : Binds K fdP P__law_pick []) (FB : Fun K "_law_bits" "_law_bits" s__law_bits fB fdB) (b_law_bits : Binds K fdB P__law_bits []) : FnOk P w K mg base CX0 4 f fd P__law_code (spCode K) := by
  have G_law_draw : FnOk P w K mg base CX0 1 fD fdD P__law_draw spDraw := ok_draw FD T.toTxtA
  have G_law_bits : FnOk P w K mg base CX0 3 fB fdB P__law_bits spBits := ok_bits FB T.toTxtP FD b_law_draw FP b_law_pick
  refine F.ok sc__law_code (fun vs H Q E h => ?_) (fun cdv A outer s H vs Q E hr h => ?_)
  · obtain ⟨p, c, z, most, n, rfl, _⟩ := h
    rfl
  · obtain ⟨p, c, z, most, n, rfl, hp, hn, hm1, hm2, hz, k⟩ := h
    refine ⟨_, (pss_cons (ps_par (i := 3) (j := 4) (by rfl) sc__law_code.nd rfl rfl (by decide) rfl rfl (pa_cons (pe_op op_add pe_int (pe_call G_law_draw (hr.mono (by decide)) (by rfl) T.m_law_draw T.k_law_draw b_law_draw .nil pass0 (pa_cons (pv 0) (pa_cons (pv 2) pa_nil)))) (pa_cons (pe_lst pa_nil) pa_nil)) (by rfl))
      (pss_cons (ps_for PassesOwn.never rfl (pi_range1 (by rfl) T.range (pa_cons (pv 3) pa_nil)) (pg_name (i := 5) sc__law_code.nd rfl (Or.inl rfl)) (pss_cons (ps_set (i := 6) sc__law_code.nd rfl (Or.inl rfl) (pe_lst pa_nil))
      (pss_cons (ps_for PassesOwn.never rfl (pi_str (pv 1)) (pg_name (i := 7) sc__law_code.nd rfl (Or.inl rfl)) (pss_cons (ps_set (i := 8) sc__law_code.nd rfl (Or.inl rfl) (pe_call G_law_draw (hr.mono (by decide)) (by rfl) T.m_law_draw T.k_law_draw b_law_draw .nil pass0 (pa_cons (pv 0) (pa_cons (pv 3) pa_nil))))
      (pss_one (ps_expr (pe_bm PySem.F.plainAttrs_list PySem.F.slot_list_append PySem.F.type_list_append mt_append (pv 6) (pa_cons (pe_tup (pa_cons (pv 8) (pa_cons (pe_call G_law_bits (hr.mono (by decide)) (by rfl) T.m_law_bits T.k_law_bits b_law_bits .nil pass0 (pa_cons (pv 0) pa_nil)) pa_nil))) pa_nil))))))
      (pss_one (ps_expr (pe_bm PySem.F.plainAttrs_list PySem.F.slot_list_append PySem.F.type_list_append mt_append (pv 4) (pa_cons (pv 6) pa_nil)))))))
      (pss_one (ps_ret (pe_tup (pa_cons (pv 1) (pa_cons (pv 4) (pa_cons (pe_lc (own := [("_law_state", 5)]) (g := gName 5) (by rfl) sc__law_code.nd (pi_range1 (by rfl) T.range (pa_cons (pv 3) pa_nil)) (blkOk_by (own := [("_law_state", 5)]) (N := N__law_code) (sc := defScope s__law_code) (by decide +kernel)) (fun _ _ _ _ _ => pg_name (i := 5) sc__law_code.nd rfl (Or.inl rfl)) (fun _ _ _ _ _ => pts_nil) (fun _ _ _ _ _ => (pe_call G_law_bits (hr.mono (by decide)) (by rfl) T.m_law_bits T.k_law_bits b_law_bits .nil pass0 (pa_cons (pv 0) pa_nil)))) pa_nil)))))))), ?_⟩
    refine ⟨_, rfl, _, rfl, p, c, _, n, rfl, hp, by omega, by omega, by omega, fun d H1 d0 d1 hp1 k1 => ⟨_, _, rfl, rfl, by show 0 ≤ sizeLine; decide, fun R hR => ⟨_, _, rfl, ?_⟩⟩⟩
    obtain ⟨nRp, nRc⟩ := hp1.new hR
    have hRn : H R = none := k1.free hp1 hR
    refine ⟨_, rfl, 1 + d, rfl, by omega, by omega, for_range (n := (1 + d).toNat) (fun i σ H2 => ∃ (rs : List V) (data : List Row) (v5 v6 v7 v8 : Option V), σ = [some (.ref p), some (.str z), some (.int most), some (.int (1 + d)), some (.ref R), v5, v6, v7, v8] ∧
      H2 R = some (.lst rs) ∧ DpAll K (L2.del H2 R) rs (data.map rowD) ∧ data.length = i ∧ (∀ r ∈ data, RowOk z.length (1 + d) r) ∧ Pen H2 p c (n + 1 + i * 104) ∧ Kp p H H2)
      ⟨[], [], none, none, none, none, rfl, upd_same, .nil, rfl, (fun r hr => nomatch hr), hp1.same (same_new hR), k1.trans (Kp.of (same_new hR))⟩ ?_ ?_⟩
    · rintro i σ H2 hi ⟨rs, data, v5, v6, v7, v8, rfl, hR2, hD, hl, hok, hp2, k2⟩
      refine ⟨by show 0 ≤ sizeLine; decide, fun r hr2 => ?_⟩
      have nrR : r ≠ R := (ne_of_none hR2 hr2).symm
      obtain ⟨nrp, nrc⟩ := hp2.new hr2
      have hrn : H r = none := k2.free hp2 hr2
      have e0 : Kl (L2.del H2 R) (L2.del (L2.del (L2.upd H2 r (.lst [])) R) r) := fun b o e _ => by
        obtain ⟨h1, h2⟩ := del_some e
        have h3 : b ≠ r := ne_of_none h2 hr2
        rw [del_ne h3, del_ne h1, upd_ne h3]
        exact h2
      refine ⟨_, rfl, z, rfl, for_it walk_strS (fun j σ H3 => ∃ (ts : List V) (row : Row) (v7 v8 : Option V), σ = [some (.ref p), some (.str z), some (.int most), some (.int (1 + d)), some (.ref R), some (.int (0 + i)), some (.ref r), v7, v8] ∧
        H3 R = some (.lst rs) ∧ H3 r = some (.lst ts) ∧ DpAll K (L2.del (L2.del H3 R) r) rs (data.map rowD) ∧ DpAll K (L2.del (L2.del H3 R) r) ts (row.map tupD) ∧ row.length = j ∧ (∀ gb ∈ row, 0 ≤ gb.1 ∧ gb.1 < 1 + d ∧ 0 ≤ gb.2 ∧ gb.2 < 100) ∧ Pen H3 p c (n + 1 + i * 104 + j * 4) ∧ Kp p H H3)
        ⟨[], [], v7, v8, rfl, by rw [upd_ne nrR.symm]; exact hR2, upd_same, hD.mv e0, .nil, rfl, (fun r hr => nomatch hr), hp2.same (same_new hr2), k2.trans (Kp.of (same_new hr2))⟩ (fun _ _ _ _ _ => trivial) ?_ ?_⟩
      · rintro j x σ H3' H3 hj ⟨ts, row, v7, v8, rfl, hR3, hr3, hD1, hD2, hl2, hok2, hp3, k3⟩ ⟨rfl, cc, hcc, rfl⟩
        refine ⟨_, rfl, _, rfl, p, c, _, _, rfl, hp3, by omega, by omega, by omega, fun g H4 g0 g1 hp4 k4 => ?_⟩
        obtain ⟨kvs, hpk⟩ := hp3.dk
        have hR4 := k4 _ _ hR3 nRp
        have hr4 := k4 _ _ hr3 nrp
        refine ⟨_, rfl, Or.inl ⟨rfl, _, SqL.of hr4⟩, _, rfl, _, rfl, p, c, _, rfl, hp4, by omega, fun b H5 b0 b1 hp5 k5 => ⟨by show 2 ≤ sizeLine; decide, fun q hq => ?_⟩⟩
        have hr5 := k5 _ _ hr4 nrp
        have hR5 := k5 _ _ hR4 nRp
        have nqr : q ≠ r := (ne_of_none hr5 hq).symm
        have nqR : q ≠ R := (ne_of_none hR5 hq).symm
        refine ⟨r, ts, .ref q, rfl, rfl, by rw [upd_ne nqr.symm]; exact hr5, ?_, ?_⟩
        · rw [hD2.length, List.length_map]
          exact small1000 (by omega)
        have e1 : Kl (L2.del (L2.del H3 R) r) (L2.del (L2.del (L2.upd (L2.upd H5 q (.tup [.int g, .int b])) r (.lst (ts ++ [.ref q]))) R) r) :=
          (((Kl.kp (k4.trans k5) hpk).del R).del r).trans fun c o e _ => by
            obtain ⟨h1, h2⟩ := del_some e
            obtain ⟨h3, h4⟩ := del_some h2
            rw [del_ne h1, del_ne h3, upd_ne h1, upd_ne (ne_of_none h4 hq)]
            exact h4
        refine ⟨ts ++ [.ref q], row ++ [(g, b)], _, _, rfl, ?_, upd_same, hD1.mv e1, ?_, ?_, ?_, ?_, ?_⟩
        · rw [upd_ne nrR.symm, upd_ne nqR.symm]; exact hR5
        · rw [List.map_append]
          refine (hD2.mv e1).snoc (.tup (SqT.of ?_) (.cons (.int g) (.cons (.int b) .nil)))
          rw [del_ne nqr, del_ne nqR, upd_ne nqr, upd_same]
        · rw [List.length_append, hl2]; rfl
        · intro gb hgb
          rcases List.mem_append.mp hgb with h | h
          · exact hok2 gb h
          · rw [List.mem_singleton.mp h]; exact ⟨g0, g1, b0, b1⟩
        · exact ((hp5.same (same_new hq)).put nrp nrc).mono (by omega)
        · exact (((k3.trans k4).trans k5).trans (Kp.of (same_new hq))).put hrn
      · rintro σ H3 ⟨ts, row, v7, v8, rfl, hR3, hr3, hD1, hD2, hl2, hok2, hp3, k3⟩
        refine ⟨_, rfl, Or.inl ⟨rfl, _, SqL.of hR3⟩, _, rfl, R, rs, .ref r, rfl, rfl, hR3, ?_, ?_⟩
        · rw [hD1.length, List.length_map, hl]
          exact small1000 (by omega)
        refine ⟨rs ++ [.ref r], data ++ [row], _, _, _, _, rfl, upd_same, ?_, ?_, ?_, ?_, ?_⟩
        · rw [del_upd, List.map_append]
          refine (hD1.mv (Kl.undel _ _)).snoc (.lst (SqL.of ?_) (hD2.mv (Kl.undel _ _)))
          rw [del_ne nrR]; exact hr3
        · rw [List.length_append, hl]; rfl
        · intro y hy
          rcases List.mem_append.mp hy with h | h
          · exact hok y h
          · rw [List.mem_singleton.mp h]; exact ⟨hl2, hok2⟩
        · exact (hp3.put nRp nRc).mono (by omega)
        · exact k3.put hRn
    · rintro σ H2 ⟨rs, data, v5, v6, v7, v8, rfl, hR2, hD, hl, hok, hp2, k2⟩
      refine ⟨_, rfl, _, rfl, _, rfl, 1 + d, rfl, by omega, by omega, fun D hD0 => lc_range (n := (1 + d).toNat) (fun j H3 => ∃ es : List Int, H3 D = some (.lst (es.map V.int)) ∧ es.length = j ∧ (∀ e ∈ es, 0 ≤ e ∧ e < 100) ∧
        H3 R = some (.lst rs) ∧ DpAll K (L2.del (L2.del H3 R) D) rs (data.map rowD) ∧ Pen H3 p c (n + 1 + (1 + d).toNat * 104 + j * 3) ∧ Kp p H H3)
        ⟨[], upd_same, rfl, (fun e he => nomatch he), ?_, ?_, hp2.same (same_new hD0), k2.trans (Kp.of (same_new hD0))⟩ ?_ ?_⟩
      · rw [upd_ne (ne_of_none hR2 hD0)]; exact hR2
      · refine hD.mv fun b o e _ => ?_
        obtain ⟨h1, h2⟩ := del_some e
        have h3 : b ≠ D := ne_of_none h2 hD0
        rw [del_ne h3, del_ne h1, upd_ne h3]
        exact h2
      · rintro j H3 hj ⟨es, hD3, hl3, hok3, hR3, hDp, hp3, k3⟩
        obtain ⟨nDp, nDc⟩ := hp2.new hD0
        have hDn : H D = none := k2.free hp2 hD0
        have nDR : D ≠ R := (ne_of_none hR2 hD0).symm
        refine ⟨rfl, ?_⟩
        refine lcYes ?_
        refine ⟨_, rfl, p, c, _, rfl, hp3, by omega, fun b H4 b0 b1 hp4 k4 => ⟨es.map V.int, k4 _ _ hD3 nDp, ?_, es ++ [b], ?_, ?_, ?_, ?_, ?_, ?_, ?_⟩⟩
        · rw [List.length_map, hl3]; exact small1000 (by omega)
        · rw [upd_same, List.map_append]; rfl
        · rw [List.length_append, hl3]; rfl
        · intro y hy
          rcases List.mem_append.mp hy with h | h
          · exact hok3 y h
          · rw [List.mem_singleton.mp h]; exact ⟨b0, b1⟩
        · rw [upd_ne nDR.symm]; exact k4 _ _ hR3 nRp
        · obtain ⟨kvs, hpk⟩ := hp3.dk
          refine hDp.mv ((((Kl.kp k4 hpk).del R).del D).trans fun b o e _ => ?_)
          obtain ⟨h1, h2⟩ := del_some e
          rw [del_ne h1] at e ⊢
          obtain ⟨h3, h4⟩ := del_some h2
          rw [del_ne h3, upd_ne h1]
          exact h4
        · exact (hp4.put nDp nDc).mono (by omega)
        · exact (k3.trans k4).put hDn
      · rintro H3 ⟨es, hD3, hl3, hok3, hR3, hDp, hp3, k3⟩
        refine ⟨by show 3 ≤ sizeLine; decide, fun t ht => ?_⟩
        have st : Same H3 (L2.upd H3 t (.tup [.str z, .ref R, .ref D])) := same_new ht
        refine k _ data es _ (.tup (SqT.of upd_same) (.cons (.str z) (.cons (.lst (SqL.of (st _ _ hR3)) (hDp.mv (((Kl.undel _ _).trans (Kl.undel _ _)).trans (Kl.same st)))) (.cons (.lst (SqL.of (st _ _ hD3)) (dpAll_ints _ _ _)) .nil)))) ⟨?_, ?_, fun r hr => ?_, hok3⟩ ?_ ?_ ?_
        · rw [hl3, hl]
        · omega
        · obtain ⟨h1, h2⟩ := hok r hr
          refine ⟨h1, fun gb hgb => ?_⟩
          obtain ⟨a1, a2, a3, a4⟩ := h2 gb hgb
          exact ⟨a1, by omega, a3, a4⟩
        · omega
        · exact (hp3.same st).mono (by omega)
        · exact k3.trans (Kp.of st)
end
end Vf
set_option Elab.async false
set_option linter.all false
set_option maxRecDepth 100000
set_option maxHeartbeats 4000000
/-! for i, x in enumerate(tuple) -/
namespace Vf
open PySem L2 PyProof.Rows
theorem meets_enumerate_newT (l : Addr) (o : Obj) (items : Array Value) (ht : o.cls = .type "tuple") (hd : ∃ n, o.data = .seq items n) :
    Meets (Builtin.«enumerate.__new__» ⟨[.type "enumerate", .ref l], []⟩) (fun _ R s => s.heap.get? l = some o ∧
      R (.ok (.ret (.ref (s.heap.push { cls := .type "tuple_iterator", data := .fields #[.ref l, .int 0 0] }).objs.size)))
        { s with heap := (s.heap.push { cls := .type "tuple_iterator", data := .fields #[.ref l, .int 0 0] }).push { cls := .type "enumerate", data := .fields #[.none, .bool false, .ref s.heap.objs.size, rawInt 0, .none, .none] } }) :=
  .of_wp fun prog w A R s h => by
    obtain ⟨hl, h⟩ := h
    have hT : s.heap.IsTuple l items := ⟨o, hl, ht, hd⟩
    obtain ⟨hp, g, d, tk, os⟩ := s
    have hsub := sub_enumerate
    wp_walk
    refine wpAny_stack_any fun st => wpAny_pure ?_
    split
    · rename_i c _ _ _ _ _
      cases (c == Value.type "enumerate")
      · wp_walk using wpAny_pyIter_tuple hT
        exact ⟨_, rfl, h⟩
      · wp_walk using wpAny_pyIter_tuple hT
        exact ⟨_, rfl, h⟩
    · wp_walk using wpAny_pyIter_tuple hT
      exact ⟨_, rfl, h⟩
section
variable {prog : Program} {w : World} {A : Around} {E : Value → Shared → Prop} {s : Shared}
theorem call_enumerate_tuple {l : Addr} {items : Array Value} {Q : Value → Shared → Prop} (hL : s.heap.IsTuple l items)
    (h : ∀ h', IsEnum h' (s.heap.objs.size + 1) s.heap.objs.size 0 .none → h'.IsTupleIter s.heap.objs.size l 0 → h'.objs.size = s.heap.objs.size + 2 →
      (∀ b o, s.heap.get? b = some o → h'.get? b = some o) → Q (.ref (s.heap.objs.size + 1)) { s with heap := h' }) :
    wpAny (model prog w) A (call (.type "enumerate") [.ref l]) Q E s := by
  obtain ⟨o, hl, hc, hd⟩ := hL
  refine callType_new F.called_enumerate (by decide) (F.typeCall_enumerate_1 _) (F.newCall_enumerate_1 _) (fun obj => F.args_object_init_2 obj _) F.entry_enumerate_new
    (meets_enumerate_newT l o items hc hd) ⟨hl, ?_⟩
  have hz : (s.heap.push { cls := .type "tuple_iterator", data := .fields #[.ref l, .int 0 0] }).objs.size = s.heap.objs.size + 1 := Heap.size_push ..
  show _ ∧ _
  rw [hz]
  have he : IsEnum ((s.heap.push { cls := .type "tuple_iterator", data := .fields #[.ref l, .int 0 0] }).push
      { cls := .type "enumerate", data := .fields #[.none, .bool false, .ref s.heap.objs.size, rawInt 0, .none, .none] }) (s.heap.objs.size + 1) s.heap.objs.size 0 .none := by
    have := Heap.get?_push_size (s.heap.push { cls := .type "tuple_iterator", data := .fields #[.ref l, .int 0 0] })
      (o := { cls := .type "enumerate", data := .fields #[.none, .bool false, .ref s.heap.objs.size, rawInt 0, .none, .none] }) rfl
    rw [hz] at this; exact this
  refine ⟨⟨_, he, rfl⟩, h _ he ⟨_, Heap.get?_push_of_some _ (Heap.get?_push_size _ rfl), rfl, rfl⟩ (by rw [Heap.size_push, hz]) fun b o x => Heap.get?_push_of_some _ (Heap.get?_push_of_some _ x)⟩
end
/-- the tuple at a, each item in a new pair -/
def Itet (K : PySem.W.Frag) (a : Addr) : It :=
  ⟨fun i H => ∃ (xs : List V) (x : V), SqT K H a xs ∧ xs[i]? = some x, fun i H v H' => ∃ T x, v = .ref T ∧ H T = none ∧ H' = L2.upd H T (.tup [.int (i : Nat), x]) ∧ ∀ xs, SqT K H a xs → xs[i]? = some x, fun i H => ∃ xs : List V, SqT K H a xs ∧ xs.length ≤ i⟩
theorem drawsAtEnd {prog : Program} {w : World} {A : Around} (hh : A.handled = none) (it t : Addr) (items : Array Value) (i : Nat) (hi : items[i]? = none) :
    Draws prog w A it [it, t] i (fun _ _ => False) (fun j h => j = i ∧ h.IsTupleIter it t j ∧ h.IsTuple t items) where
  live := fun _ _ st => let ⟨o, ho, _⟩ := st.2.1; ⟨o, ho⟩
  frame := fun _ _ _ st hk => ⟨st.1, st.2.1.at fun o e => hk it (by simp) o e, st.2.2.at fun o e => hk t (by simp) o e⟩
  item := fun j s Q E hj st hQ => absurd st.1 (Nat.ne_of_lt hj)
  done := fun s Q E st hE => wpAny_nextOf_tuple_end hh st.2.1 st.2.2 hi hE
theorem turn_enumT {P : Program} {w : World} {K : PySem.W.Frag} {elts : List Expr} {kk : Nat} {tpos : Pos} (a e it : Addr) :
    Turn P w K (.Tuple elts kk tpos) (Itet K a) [e, it] e (fun i h => (∃ old, IsEnum h e it ((i : Nat) : Int) old) ∧ h.IsTupleIter it a i ∧ e ≠ it) where
  mem := by simp
  obj := fun i h st b hb => by
    obtain ⟨⟨old, he⟩, ⟨o, ho, hc, hd⟩, _⟩ := st
    have e' : b = e ∨ b = it := by simpa using hb
    rcases e' with z | z
    · rw [z]; exact ⟨_, he, fun v q => nomatch q⟩
    · rw [z]; exact ⟨o, ho, fun v q => by rw [hd] at q; cases q⟩
  keep := fun i h h' st k => let ⟨⟨old, he⟩, hi, hne⟩ := st; ⟨⟨old, k e (by simp) _ he⟩, hi.at fun o q => k it (by simp) o q, hne⟩
  item := by
    intro X hP hw hK hc i pins s σ H E I hf st hg
    subst hP hw hK
    obtain ⟨⟨old, he⟩, hit, hne⟩ := st
    obtain ⟨xs, x, hq, hx⟩ := hg
    obtain ⟨its, rv, p, hz⟩ := I.tuple hq
    obtain ⟨u0, hu, ru⟩ := rv.get hx
    have hel : e < s.heap.objs.size := Heap.lt_size he
    have hil : it < s.heap.objs.size := by obtain ⟨_, q, _⟩ := hit; exact Heap.lt_size q
    have hae : a ≠ e := fun z => by
      obtain ⟨o, ho, hc, _⟩ := p
      rw [z] at ho
      have : o = _ := Option.some.inj (ho.symm.trans he)
      rw [this] at hc
      exact absurd (Value.type.inj hc) (by decide)
    have hai : a ≠ it := fun z => by
      obtain ⟨o, ho, hc, _⟩ := p
      obtain ⟨o2, ho2, hc2, _⟩ := hit
      rw [z] at ho
      rw [Option.some.inj (ho.symm.trans ho2), hc2] at hc
      exact absurd (Value.type.inj hc) (by decide)
    have D := Draws.tuple (prog := X.prog) (w := X.w) (A := X.A.in1) (show X.A.in1.handled = none from I.ok.hd hc) it a hai its.toArray
    have hlt : i < its.toArray.size := by
      obtain ⟨h, _⟩ := List.getElem?_eq_some_iff.mp hu
      simpa using h
    refine wpAny_pyNext_enum_itemC D he ⟨hit, p⟩ hlt hne (by simp [hne, Ne.symm hae]) fun y h' tk hy ho hit' hT hsz hk => ?_
    obtain rfl : u0 = y := by
      have : its.toArray[i]? = some u0 := by simpa using hu
      exact Option.some.inj (this.symm.trans hy)
    refine ⟨_, rfl, wpAny_letOwnedTupleGo_enum (s := { s with heap := h', toks := tk + 1 }) ho fun h'' he' sb => ?_⟩
    have hT2 : h''.get? s.heap.objs.size = some { cls := .type "tuple", data := .seq #[.int i tk, u0] } := (sb.2 _ (Nat.ne_of_gt hel)).trans hT
    have new : ObjOk X.prog X.w (L2.upd H s.heap.objs.size (.tup [.int (i : Nat), x])) h'' s.heap.objs.size (.tup [.int (i : Nat), x]) :=
      ⟨by show 2 ≤ sizeLine; decide, [.int i tk, u0], .cons ⟨_, rfl⟩ (.cons ru .nil), ⟨_, hT2, rfl, _, rfl⟩⟩
    have I1 : Inv X pins σ (L2.upd H s.heap.objs.size (.tup [.int (i : Nat), x])) { s with heap := h'', toks := tk + 1 } :=
      I.turnedNew (ch := [e, it]) (fun b ob hb q => (sb.2 b (fun z => hb (by simp [z]))).trans (hk b ob (fun z => hb (by simp [z])) (fun z => hb (by simp [z])) q)) hf (Nat.le_refl _) new
    refine ⟨.ref s.heap.objs.size, _, I1, rfl, ⟨_, x, rfl, I.hok.fresh (Nat.le_refl _), rfl, fun ys hy => ?_⟩, ⟨⟨u0, ?_⟩, hit'.1.at fun o q => (sb.2 it (Ne.symm hne)).trans q, hne⟩, fun b hb => ?_⟩
    · rw [I.tuple_inj hy hq]; exact hx
    · have e1 : ((i + 1 : Nat) : Int) = (i : Int) + 1 := by omega
      rw [e1]; exact he'
    · have hb' : b < s.heap.objs.size := by
        have e' : b = e ∨ b = it := by simpa using hb
        rcases e' with z | z
        · rw [z]; exact hel
        · rw [z]; exact hil
      rw [upd_ne (Nat.ne_of_lt hb')]
      exact (hf b hb).1
  done := by
    intro X hP hw hK hc i pins s σ H E I hf st hg
    subst hP hw hK
    obtain ⟨⟨old, he⟩, hit, hne⟩ := st
    obtain ⟨xs, hq, hx⟩ := hg
    obtain ⟨its, rv, p, hz⟩ := I.tuple hq
    obtain ⟨f0, f1, f2, f3, f4, f5⟩ := hf it (by simp)
    have hl := rv.length
    have hai : a ≠ it := fun z => by
      obtain ⟨o, ho, hc, _⟩ := p
      obtain ⟨o2, ho2, hc2, _⟩ := hit
      rw [z] at ho
      rw [Option.some.inj (ho.symm.trans ho2), hc2] at hc
      exact absurd (Value.type.inj hc) (by decide)
    have D := drawsAtEnd (prog := X.prog) (w := X.w) (A := X.A.in1) (show X.A.in1.handled = none from I.ok.hd hc) it a its.toArray i (by simp; omega)
    exact wpAny_pyNext_enum_endD D he ⟨rfl, hit, p⟩ fun h' eb => ⟨rfl, I.turned (t' := s.toks) (fun b o hb q => eb b o hb q) f0 f1 f3 f4 f5⟩
  self := fun A i s Q E st h => let ⟨⟨_, he⟩, _⟩ := st; wpAny_pyIter_enum he h
def iEnumT (K : PySem.W.Frag) (ta : TA) : TI := fun σ H R => ta σ H fun vs H1 => ∃ a xs, vs = [.ref a] ∧ SqT K H1 a xs ∧ R (Itet K a) H1
theorem pi_enumT {X : Cx} {e : Expr} {ta : TA} {p pos tpos : Pos} {elts : List Expr} {kk : Nat} (hg : Gl X "enumerate") (hm : X.mg "enumerate" = none) (ha : PA X [e] ta) (hs : starEach [e] X.env = [(false, eval e X.env)] := by rfl) :
    PI X (.Tuple elts kk tpos) (.Call (.Name "enumerate" p) [e] [] pos) (iEnumT X.K ta) := by
  refine ⟨fun pins s σ H R I h => ?_⟩
  refine Call_ (ld_blt I hg hm boot_enumerate (PyProof.Rows.callWith_type1 (thn (ha.run pos pins s σ H _ I h) fun us s1 ⟨vs, H1, I1, r1, q1⟩ => ?_) hs rfl))
  obtain ⟨a, xs, ex, hq, q⟩ := q1
  subst ex
  cases r1 with
  | cons r rr =>
    cases rr
    cases r
    obtain ⟨its, rv, p', hz⟩ := I1.tuple hq
    refine call_enumerate_tuple p' fun h' he hit hsz hk => wpAny_pyIter_enum he ?_
    have I2 : Inv X pins σ H1 { s1 with heap := h' } := I1.kept (t' := s1.toks) hk
    refine ⟨s1.heap.objs.size + 1, [s1.heap.objs.size + 1, s1.heap.objs.size], _, _, H1, rfl, I2, turn_enumT a (s1.heap.objs.size + 1) s1.heap.objs.size, ⟨⟨.none, he⟩, hit, Nat.succ_ne_self _⟩, fun b hb => ?_, q⟩
    have e' : b = s1.heap.objs.size + 1 ∨ b = s1.heap.objs.size := by simpa using hb
    have hle : s1.heap.objs.size ≤ b := by
      rcases e' with z | z
      · rw [z]; exact Nat.le_add_right _ _
      · rw [z]; exact Nat.le_refl _
    exact I1.fpOk hle (I1.hok.fresh hle)
theorem walk_enumT {K : PySem.W.Frag} {a : Addr} {xs : List V} : Walk (Itet K a) xs.length (fun H => SqT K H a xs) (fun i H v H' => ∃ T x, v = .ref T ∧ H T = none ∧ H' = L2.upd H T (.tup [.int (i : Nat), x]) ∧ xs[i]? = some x) :=
  ⟨fun i H hi h => ⟨xs, _, h, List.getElem?_eq_getElem hi⟩, fun H h => ⟨xs, h, Nat.le_refl _⟩, fun i H v H' hi h y => by obtain ⟨T, x, h1, h2, h3, h4⟩ := y; exact ⟨T, x, h1, h2, h3, h4 xs h⟩⟩
/-- a list or a tuple -/
def Sq (K : PySem.W.Frag) (H : Hp) (a : Addr) (xs : List V) : Prop := SqL K H a xs ∨ SqT K H a xs
def GSq (K : PySem.W.Frag) (H1 : Hp) (a : Addr) (xs : List V) (H : Hp) : Prop := (SqL K H1 a xs → SqL K H a xs) ∧ (SqT K H1 a xs → SqT K H a xs)
theorem GSq.kl {K : PySem.W.Frag} {H1 H : Hp} {a : Addr} {xs : List V} (k : Kl H1 H) : GSq K H1 a xs H := ⟨fun h => k.seq h, fun h => k.seqT h⟩
theorem GSq.same {K : PySem.W.Frag} {H1 H : Hp} {a : Addr} {xs : List V} (s : Same H1 H) : GSq K H1 a xs H := .kl (.same s)
theorem Sq.kl {K : PySem.W.Frag} {H1 H : Hp} {a : Addr} {xs : List V} (h : Sq K H1 a xs) (k : Kl H1 H) : Sq K H a xs := h.imp (fun h => k.seq h) (fun h => k.seqT h)
theorem Sq.same {K : PySem.W.Frag} {H1 H : Hp} {a : Addr} {xs : List V} (h : Sq K H1 a xs) (s : Same H1 H) : Sq K H a xs := h.kl (.same s)
theorem Sq.len {K : PySem.W.Frag} {H : Hp} {a : Addr} {xs : List V} (h : Sq K H a xs) : LenV K (.ref a) H xs.length := h.elim (fun h => Or.inl ⟨_, h, rfl⟩) (fun h => Or.inr ⟨_, h, rfl⟩)
def iSeq (K : PySem.W.Frag) (tl : TE) : TI := fun σ H R => tl σ H fun x H1 => ∃ a xs, x = .ref a ∧ Sq K H1 a xs ∧ ∀ J, Walk J xs.length (GSq K H1 a xs) (YAt xs) → R J H1
theorem pi_seq {X : Cx} {K : PySem.W.Frag} {tg l : Expr} {tl : TE} (hK : X.K = K) (hl : PE X l tl) : PI X tg l (iSeq K tl) := by
  subst hK
  refine ⟨fun pins s σ H R I h => ?_⟩
  refine thn (hl.run pins s σ H _ I h) fun v s1 ⟨x, H1, I1, r1, q1⟩ => ?_
  obtain ⟨a, xs, e, hq, q⟩ := q1
  subst e
  cases r1
  rcases hq with hq | hq
  · obtain ⟨its, rv, p, hz⟩ := I1.list hq
    refine wpAny_pyIter_list p.isList ?_
    refine ⟨s1.heap.objs.size, [s1.heap.objs.size], _, _, H1, rfl, I1.kept (t' := s1.toks) fun b o e => Heap.get?_push_of_some _ e, turn_list a _, ⟨_, Heap.get?_push_size _ rfl, rfl, rfl⟩, fun b hb => ?_, q _ (walk_list.mono (fun H g => g.1 hq) fun _ _ _ _ _ _ y => y)⟩
    have e : b = s1.heap.objs.size := by simpa using hb
    subst e
    exact I1.fpOk (Nat.le_refl _) (I1.hok.fresh (Nat.le_refl _))
  · obtain ⟨its, rv, p, hz⟩ := I1.tuple hq
    refine wpAny_pyIter_tuple (show s1.heap.IsTuple a its.toArray from p) ?_
    refine ⟨s1.heap.objs.size, [s1.heap.objs.size], _, _, H1, rfl, I1.kept (t' := s1.toks) fun b o e => Heap.get?_push_of_some _ e, turn_tuple a _, ⟨_, Heap.get?_push_size _ rfl, rfl, rfl⟩, fun b hb => ?_, q _ (walk_tup.mono (fun H g => g.2 hq) fun _ _ _ _ _ _ y => y)⟩
    have e : b = s1.heap.objs.size := by simpa using hb
    subst e
    exact I1.fpOk (Nat.le_refl _) (I1.hok.fresh (Nat.le_refl _))
def iEnumX (K : PySem.W.Frag) (ta : TA) : TI := fun σ H R => ta σ H fun vs H1 => ∃ a xs, vs = [.ref a] ∧ Sq K H1 a xs ∧ ∀ J, Walk J xs.length (GSq K H1 a xs) (fun i H v H' => ∃ T x, v = .ref T ∧ H T = none ∧ H' = L2.upd H T (.tup [.int (i : Nat), x]) ∧ xs[i]? = some x) → R J H1
theorem pi_enumX {X : Cx} {e : Expr} {ta : TA} {p pos tpos : Pos} {elts : List Expr} {kk : Nat} (hg : Gl X "enumerate") (hm : X.mg "enumerate" = none) (ha : PA X [e] ta) (hs : starEach [e] X.env = [(false, eval e X.env)] := by rfl) :
    PI X (.Tuple elts kk tpos) (.Call (.Name "enumerate" p) [e] [] pos) (iEnumX X.K ta) := by
  refine ⟨fun pins s σ H R I h => ?_⟩
  refine Call_ (ld_blt I hg hm boot_enumerate (PyProof.Rows.callWith_type1 (thn (ha.run pos pins s σ H _ I h) fun us s1 ⟨vs, H1, I1, r1, q1⟩ => ?_) hs rfl))
  obtain ⟨a, xs, ex, hq, q⟩ := q1
  subst ex
  cases r1 with
  | cons r rr =>
    cases rr
    cases r
    rcases hq with hq | hq
    · obtain ⟨its, rv, p', hz⟩ := I1.list hq
      refine call_enumerate_list p'.isList fun h' he hit hsz hk => wpAny_pyIter_enum he ?_
      have I2 : Inv X pins σ H1 { s1 with heap := h' } := I1.kept (t' := s1.toks) hk
      refine ⟨s1.heap.objs.size + 1, [s1.heap.objs.size + 1, s1.heap.objs.size], _, _, H1, rfl, I2, turn_enum a (s1.heap.objs.size + 1) s1.heap.objs.size, ⟨⟨.none, he⟩, hit, Nat.succ_ne_self _⟩, fun b hb => ?_, q _ (walk_enum.mono (fun H g => g.1 hq) fun i H v H' _ _ y => ?_)⟩
      · have e' : b = s1.heap.objs.size + 1 ∨ b = s1.heap.objs.size := by simpa using hb
        have hle : s1.heap.objs.size ≤ b := by
          rcases e' with z | z
          · rw [z]; exact Nat.le_add_right _ _
          · rw [z]; exact Nat.le_refl _
        exact I1.fpOk hle (I1.hok.fresh hle)
      · obtain ⟨T, x, y', h1, h2, h3, h4, h5⟩ := y
        obtain rfl : V.int i = x := Option.some.inj h4
        exact ⟨T, y', h1, h2, h3, h5⟩
    · obtain ⟨its, rv, p', hz⟩ := I1.tuple hq
      refine call_enumerate_tuple p' fun h' he hit hsz hk => wpAny_pyIter_enum he ?_
      have I2 : Inv X pins σ H1 { s1 with heap := h' } := I1.kept (t' := s1.toks) hk
      refine ⟨s1.heap.objs.size + 1, [s1.heap.objs.size + 1, s1.heap.objs.size], _, _, H1, rfl, I2, turn_enumT a (s1.heap.objs.size + 1) s1.heap.objs.size, ⟨⟨.none, he⟩, hit, Nat.succ_ne_self _⟩, fun b hb => ?_, q _ (walk_enumT.mono (fun H g => g.2 hq) fun i H v H' _ _ y => y)⟩
      have e' : b = s1.heap.objs.size + 1 ∨ b = s1.heap.objs.size := by simpa using hb
      have hle : s1.heap.objs.size ≤ b := by
        rcases e' with z | z
        · rw [z]; exact Nat.le_add_right _ _
        · rw [z]; exact Nat.le_refl _
      exact I1.fpOk hle (I1.hok.fresh hle)
/-- rows of states, as lists or as tuples -/
def Rws (K : PySem.W.Frag) (H : Hp) (R : V) (rs : List Row) : Prop := Dp K H R (rowsD rs) ∨ Dp K H R (rowsT rs)
def Ens (K : PySem.W.Frag) (H : Hp) (E : V) (es : List Int) : Prop := Dp K H E (intsD es) ∨ Dp K H E (intsT es)
theorem Rws.mv {K : PySem.W.Frag} {H H' : Hp} {R : V} {rs : List Row} (h : Rws K H R rs) (k : Kl H H') : Rws K H' R rs := h.imp (fun h => h.mv k) (fun h => h.mv k)
theorem Ens.mv {K : PySem.W.Frag} {H H' : Hp} {R : V} {rs : List Int} (h : Ens K H R rs) (k : Kl H H') : Ens K H' R rs := h.imp (fun h => h.mv k) (fun h => h.mv k)
theorem Ens.at {K : PySem.W.Frag} {H : Hp} {E : V} {es : List Int} (h : Ens K H E es) : ∃ e, E = .ref e ∧ Sq K H e (es.map V.int) := by
  rcases h with h | h
  · obtain ⟨e, ys, rfl, h1, h2⟩ := h.listE
    obtain rfl := dpAll_intsE h2
    exact ⟨e, rfl, Or.inl h1⟩
  · obtain ⟨e, ys, rfl, h1, h2⟩ := h.tupE
    obtain rfl := dpAll_intsE h2
    exact ⟨e, rfl, Or.inr h1⟩
theorem Rws.at {K : PySem.W.Frag} {H : Hp} {R : V} {rs : List Row} (h : Rws K H R rs) : ∃ r xs, R = .ref r ∧ Sq K H r xs ∧ xs.length = rs.length ∧
    ∀ (i : Nat) (hi : i < rs.length) (x : V), xs[i]? = some x → ∃ w ts, x = .ref w ∧ Sq K H w ts ∧ DpAll K H ts (rs[i].map tupD) := by
  rcases h with h | h
  · obtain ⟨r, xs, rfl, h1, h2⟩ := h.listE
    refine ⟨r, xs, rfl, Or.inl h1, by rw [h2.length, List.length_map], fun i hi x hx => ?_⟩
    obtain ⟨v, hv, hrow⟩ := h2.get (i := i) (d := rowD rs[i]) (by rw [List.getElem?_map, List.getElem?_eq_getElem hi]; rfl)
    obtain rfl : x = v := Option.some.inj (hx.symm.trans hv)
    obtain ⟨w, ts, rfl, hw1, hw2⟩ := hrow.listE
    exact ⟨w, ts, rfl, Or.inl hw1, hw2⟩
  · obtain ⟨r, xs, rfl, h1, h2⟩ := h.tupE
    refine ⟨r, xs, rfl, Or.inr h1, by rw [h2.length, List.length_map], fun i hi x hx => ?_⟩
    obtain ⟨v, hv, hrow⟩ := h2.get (i := i) (d := rowT rs[i]) (by rw [List.getElem?_map, List.getElem?_eq_getElem hi]; rfl)
    obtain rfl : x = v := Option.some.inj (hx.symm.trans hv)
    obtain ⟨w, ts, rfl, hw1, hw2⟩ := hrow.tupE
    exact ⟨w, ts, rfl, Or.inr hw1, hw2⟩
theorem tup_at {K : PySem.W.Frag} {H : Hp} {ts : List V} {r : Row} (h : DpAll K H ts (r.map tupD)) {j : Nat} {x : V} (hx : ts[j]? = some x) : ∃ (t : Addr) (hj : j < r.length), x = .ref t ∧ SqT K H t [.int (r[j]).1, .int (r[j]).2] := by
  obtain ⟨hj, _⟩ := List.getElem?_eq_some_iff.mp hx
  have hj' : j < r.length := by have := h.length; rw [List.length_map] at this; omega
  obtain ⟨v, hv, hb⟩ := h.get (i := j) (d := tupD r[j]) (by rw [List.getElem?_map, List.getElem?_eq_getElem hj']; rfl)
  obtain rfl : x = v := Option.some.inj (hx.symm.trans hv)
  obtain ⟨t, us, rfl, ht1, ht2⟩ := hb.tupE
  cases ht2 with
  | cons hA hB =>
    obtain rfl := hA.intE
    cases hB with
    | cons hB hC =>
      obtain rfl := hB.intE
      cases hC
      exact ⟨t, hj', rfl, ht1⟩
end Vf
set_option Elab.async false
set_option linter.all false
set_option maxRecDepth 100000
set_option maxHeartbeats 4000000
/-! own errors: made by an own __init__ over a plain own base; methods that may raise -/
namespace Vf
open PySem L2 PyProof.Rows PySem.Calls
def tMethV (C : Addr) (m : Str) (sp : Sp) (E : L2.St → XK) (ta : TE) (t : TA) : TE := fun σ H Q => ta σ H fun x H1 => ∃ a dx fs, x = .ref a ∧ H1 a = some (.ins C dx fs) ∧ fs.lookup m = none ∧ t σ H1 fun vs H2 => sp (x :: vs) H2 Q (E σ)
section
variable {X : Cx} {CX : CXT} {k : Nat} {f C : Addr} {fd : FuncData} {ps : List Str} {sp : Sp} {E : L2.St → XK} {x m : Str} {p pos apos : Pos} {e o : Expr} {es : List Expr} {ta : TE} {t : TA}
theorem pe_methV {pl : Sem Bool} (he : PE X o ta) (c : Cls X.K C) (hm : Meth X.K C m f) (F : FnOk X.prog X.w X.K X.mg X.base CX k f fd ps sp) (hr : Room k X.A) (hb : L2.Binds X.K fd ps []) (hx : ∀ σ, PassesAt CX X σ (E σ)) (ha : PA X (e :: es) t)
    (hst : starEach (e :: es) X.env = (false, eval e X.env) :: starEach es X.env := by rfl) (hpl : (backTo pos (starEach es X.env)).any (·.1) = false := by rfl)
    (ht : eval (.Call (.Attribute o m apos) (e :: es) [] pos) X.env = (do
      let ov ← eval o X.env
      standAt apos.atName
      let (f, first) ← holding [ov] (getMethod ov m pl)
      callWith pos f first (backTo pos (starEach (e :: es) X.env)) (backToKw pos (keywordEach [] X.env))) := by rfl) :
    PE X (.Call (.Attribute o m apos) (e :: es) [] pos) (tMethV C m sp E ta t) := by
  refine ⟨fun pins s σ H Q I h => ?_⟩
  refine PySem.W.methodCall_KW (pl := pl) (thn (he.run pins s σ H _ I h) fun u s1 ⟨x, H1, I1, rx, a, dx, fs, ex, ea, l, q⟩ => ?_) ht
  subst ex
  obtain rfl : u = Value.ref a := rx
  refine getmeth_ok I1 ea c hm l ?_
  refine PySem.W.callWith_K (first := [.ref a]) (h₀ := X.base) I.ok.mod.kin hm.kp (thn (ha.run pos pins s1 σ H1 _ I1 q) fun us s2 ⟨vs, H2, I2, r, q2⟩ => ⟨I2.kIn, ?_⟩) hst hpl
  exact run_fnS (us := .ref a :: us) (vs := .ref a :: vs) F hr hb (hx σ) I2 (.cons rfl r) q2
end
/-- what the top says of the plain base at B, asked for __init__ -/
structure BaseT (K : PySem.W.Frag) (mg : Str → Option Value) (x : Str) (B : Addr) : Prop where
  g : mg x = some (.ref B)
  s : PySem.W.specialIn K (.ref B) "__getattribute__" = some (some (.builtin "type.__getattribute__"))
  r : PySem.W.readsIn K B (.type "type") = true
  v : PySem.W.findCls K (.ref B) (.type "type") "__init__" = some (.val (.builtin "ValueError.__init__"))
section
variable {X : Cx} {e : Expr} {es : List Expr} {ta : TA} {x : Str} {p1 p2 pos : Pos} {B : Addr}
theorem pe_clsinit {pl : Sem Bool} (T : BaseT X.K X.mg x B) (hg : Gl X x) (ha : PA X (e :: es) ta) (hdb : (x == ("__debug__" : Str)) = false := by decide)
    (hc : eval (.Call (.Attribute (.Name x p1) "__init__" p2) (e :: es) [] pos) X.env = (do
      let ov ← eval (.Name x p1) X.env
      standAt p2.atName
      let (f, first) ← holding [ov] (getMethod ov "__init__" pl)
      callWith pos f first (backTo pos (starEach (e :: es) X.env)) (backToKw pos (keywordEach [] X.env))) := by rfl)
    (he : starEach (e :: es) X.env = (false, eval e X.env) :: starEach es X.env := by rfl) (hpl : (backTo pos (starEach es X.env)).any (·.1) = false := by rfl) :
    PE X (.Call (.Attribute (.Name x p1) "__init__" p2) (e :: es) [] pos) (tVeI X.K ta) := by
  refine ⟨fun pins s σ H Q I h => ?_⟩
  refine PySem.W.methodCall_KW (ld_glob I hg T.g ?_ hdb) hc
  refine PySem.W.method_cls I.kIn T.s (PySem.W.cls_value (mc := .type "type") I.kIn T.r T.v (by decide +kernel) ?_)
  show wpAny _ _ (callWith pos (Value.builtin "ValueError.__init__") [] (backTo pos (starEach (e :: es) X.env)) []) _ _ _
  refine PyProof.Rows.callWith_method1 (thn (ha.run pos pins _ σ H _ (I.tok _) h) fun us s1 ⟨vs, H1, I1, r1, a, C, ws, ev, hl, T, ea, q⟩ => ?_) he hpl
  subst ev
  cases r1 with
  | @cons _ u0 _ ur ra rw' =>
    obtain rfl : u0 = Value.ref a := ra
    have hlen : ur.length ≤ sizeLine := by
      rw [← Paired.length rw', sizeLine_eq]
      omega
    exact oinit_ok T I1 ea hlen fun s' J => ⟨.non, H1, J, rfl, q⟩
end
/-- what the top says of an own error at C over the base, with the __init__ at fI that keeps one field -/
structure ErrT (K : PySem.W.Frag) (mg : Str → Option Value) (x f : Str) (C fI : Addr) : Prop where
  oex : OexC K C
  g : mg x = some (.ref C)
  iC : PySem.W.findIn K (.ref C) "__init__" = some (some (.ref fI))
  tI : PySem.W.typeIn K (.ref fI) = some (.type "function")
  nf : PySem.W.findIn K (.ref C) f = some none
  xf : XfC K C
/-- the promise of such an __init__ -/
def spErr (C : Addr) (f : Str) : Sp := fun vs H Q _ => ∃ (a : Addr) (v : V), vs = [.ref a, v] ∧ H a = some (exo a C none) ∧ ∀ d, H d = none → d ≠ a → Q .non (L2.upd (L2.upd H d (exd d [(f, v)])) a (exo a C (some d)))
/-- what raise X(v) leaves -/
def Raised (H H' : Hp) (d : Addr) (f : Str) (v : V) : Prop := H d = none ∧ H' d = some (.xd [(f, v)]) ∧ Same H H'
theorem raised_of {H : Hp} {a d C : Addr} {f : Str} {v : V} (ha : H a = none) (hd : H d = none) (hda : d ≠ a) :
    Raised H (L2.upd (L2.del (L2.upd (L2.upd (L2.upd H a (exo a C none)) d (exd d [(f, v)])) a (exo a C (some d))) a) d (.xd [(f, v)])) d f v := by
  refine ⟨hd, upd_same, fun b o e => ?_⟩
  have h1 : b ≠ a := ne_of_none e ha
  have h2 : b ≠ d := ne_of_none e hd
  rw [upd_ne h2, del_ne h1, upd_ne h1, upd_ne h2, upd_ne h1]
  exact e
theorem idx_lt' {z : List Nat} {c : Nat} (h : c ∈ z) : z.idxOf c < z.length := List.idxOf_lt_length_iff.mpr h
theorem at_sg {z : Str} {c i : Nat} : StrLaws.At z (sg c) z.length i ↔ (TL.tl z)[i]? = some c := by
  rw [TL.at_iff (by rw [sg_tl]; simp) i, sg_tl]
  rw [← List.head?_drop]
  cases h : (TL.tl z).drop i with
  | nil => exact ⟨fun h => absurd h (by show ¬ (([] : List Nat) == [c]) = true; exact Bool.false_ne_true), fun h => absurd h (by simp)⟩
  | cons a r =>
    constructor
    · intro h
      have h2 : [a] = [c] := eq_of_beq h
      exact congrArg some (List.cons.inj h2).1
    · intro h
      have h2 : a = c := Option.some.inj h
      subst h2
      exact beq_self_eq_true [a]
theorem occ_sg {z : Str} {c : Nat} (h : c ∈ TL.tl z) : ∃ r, Builtin.Str.occurrences z (sg c) 0 z.length 1 = (TL.tl z).idxOf c :: r := by
  have hlt := idx_lt' h
  have hget : (TL.tl z)[(TL.tl z).idxOf c]? = some c := by
    rw [List.getElem?_eq_getElem hlt]
    simp
  rcases StrLaws.occ_head z (sg c) 1 (Nat.le_refl 1) with ⟨h0, hn⟩ | ⟨i, r, h0, hi, hn⟩
  · exact absurd (at_sg.mpr hget) (hn _)
  · rw [at_sg] at hi
    have e : i = (TL.tl z).idxOf c := by
      rcases Nat.lt_trichotomy i ((TL.tl z).idxOf c) with q | q | q
      · exfalso
        have := List.not_of_lt_findIdx (p := (· == c)) (xs := TL.tl z) q
        obtain ⟨hl, he⟩ := List.getElem?_eq_some_iff.mp hi
        simp [he] at this
      · exact q
      · exact absurd (at_sg.mpr hget) (hn _ q)
    exact ⟨r, by rw [h0, e]⟩
theorem find_sg {z : Str} {c : Nat} (h : c ∈ TL.tl z) : Txt.find z (sg c) = ((TL.tl z).idxOf c : Int) := by
  obtain ⟨r, e⟩ := occ_sg h
  unfold Txt.find
  rw [e]
end Vf
set_option Elab.async false
set_option linter.all false
set_option maxRecDepth 100000
set_option maxHeartbeats 4000000
/-! walks of a column over a code's rows -/
namespace Vf
open PySem L2 PyProof.Rows
theorem take_more {α : Type} {l : List α} {i : Nat} (h : i < l.length) : l.take (i + 1) = l.take i ++ [l[i]] := by
  rw [List.take_add_one, List.getElem?_eq_getElem h]; rfl
/-- what a column leaves: the state and the bits, by the rows -/
def stepR (rs : List Row) (z : List Nat) (s : Int × Int) (c : Nat) : Int × Int :=
  let gb := ((rs.getD s.1.toNat []).getD (z.idxOf c) (0, 0))
  (gb.1, s.2 + gb.2)
def walkR (rs : List Row) (z : List Nat) (s : Int) (y : List Nat) : Int × Int := y.foldl (stepR rs z) (s, 0)
theorem walkR_more {rs : List Row} {z y : List Nat} {s : Int} {i : Nat} (h : i < y.length) : walkR rs z s (y.take (i + 1)) = stepR rs z (walkR rs z s (y.take i)) y[i] := by
  unfold walkR
  rw [take_more h, List.foldl_append]
  rfl
/-- states stay states, bits grow -/
structure GoodS (m : Nat) (rs : List Row) : Prop where
  row : ∀ r ∈ rs, r.length = m ∧ ∀ gb ∈ r, 0 ≤ gb.1 ∧ gb.1 < rs.length
theorem Good.s {m : Nat} {rs : List Row} {es : List Int} (g : Good m rs es) : GoodS m rs := ⟨fun r hr => ⟨(g.row r hr).1, fun gb h => ⟨((g.row r hr).2 gb h).1, ((g.row r hr).2 gb h).2.1⟩⟩⟩
theorem at_row {m : Nat} {rs : List Row} (g : GoodS m rs) {s : Int} {j : Nat} (h0 : 0 ≤ s) (h1 : s < rs.length) (hj : j < m) :
    ∃ (h : s.toNat < rs.length) (h' : j < rs[s.toNat].length), (rs.getD s.toNat []).getD j (0, 0) = rs[s.toNat][j] ∧ 0 ≤ (rs[s.toNat][j]).1 ∧ (rs[s.toNat][j]).1 < rs.length := by
  have h : s.toNat < rs.length := by omega
  have hr := g.row rs[s.toNat] (List.getElem_mem h)
  have h' : j < rs[s.toNat].length := by rw [hr.1]; exact hj
  refine ⟨h, h', ?_, hr.2 _ (List.getElem_mem h')⟩
  rw [List.getD_eq_getElem?_getD, List.getD_eq_getElem?_getD, List.getElem?_eq_getElem h, Option.getD_some, List.getElem?_eq_getElem h', Option.getD_some]
theorem idx_lt {z : List Nat} {c : Nat} (h : c ∈ z) : z.idxOf c < z.length := List.idxOf_lt_length_iff.mpr h
theorem walkR_ok {m : Nat} {rs : List Row} {z y : List Nat} {s : Int} (g : GoodS m rs) (hz : z.length = m) (h0 : 0 ≤ s) (h1 : s < rs.length) (hy : ∀ c ∈ y, c ∈ z) : ∀ i, i ≤ y.length → 0 ≤ (walkR rs z s (y.take i)).1 ∧ (walkR rs z s (y.take i)).1 < rs.length
  | 0, _ => by rw [List.take_zero]; exact ⟨h0, h1⟩
  | i + 1, hi => by
    have ih := walkR_ok (y := y) g hz h0 h1 hy i (by omega)
    have hi' : i < y.length := by omega
    rw [walkR_more hi']
    have hc : z.idxOf y[i] < m := by rw [← hz]; exact idx_lt (hy _ (List.getElem_mem hi'))
    obtain ⟨h, h', e, a, b⟩ := at_row g ih.1 ih.2 hc
    unfold stepR
    simp only [e]
    exact ⟨a, b⟩
/-- a column's length, by the rows and the ends -/
def lenR (rs : List Row) (es : List Int) (z : List Nat) (y : List Nat) : Int := (walkR rs z 0 y).2 + es.getD (walkR rs z 0 y).1.toNat 0
end Vf
set_option Elab.async false
set_option linter.all false
set_option maxRecDepth 100000
set_option maxHeartbeats 4000000
namespace Vf
open PySem L2 PyProof.Rows
def badRow (m n k i : Nat) (r : Row) : Prop := r.length ≠ m ∨ k ≤ i ∨ ∃ gb ∈ r, ¬ (0 ≤ gb.1 ∧ gb.1 < n)
/-- the first wrong state -/
def BadAt (m : Nat) (rs : List Row) (es : List Int) (i : Nat) : Prop :=
  (∃ h : i < rs.length, badRow m rs.length es.length i rs[i] ∧ ∀ (j : Nat) (hj : j < i), ¬ badRow m rs.length es.length j rs[j]) ∨
    (i = rs.length ∧ (∀ (j : Nat) (hj : j < rs.length), ¬ badRow m rs.length es.length j rs[j]) ∧ (rs.length = 0 ∨ rs.length < es.length))
def AllOk (m : Nat) (rs : List Row) (es : List Int) : Prop := (∀ (j : Nat) (hj : j < rs.length), ¬ badRow m rs.length es.length j rs[j]) ∧ 0 < rs.length ∧ es.length ≤ rs.length
structure TxtC (K : PySem.W.Frag) (mg : Str → Option Value) (B CB fB' : Addr) : Prop where
  len : mg "len" = none
  any : mg "any" = none
  tuple : mg "tuple" = none
  enumerate : mg "enumerate" = none
  base : BaseT K mg "CodeError" B
  bc : ErrT K mg "BadCode" "state" CB fB'
section
variable {P : Program} {w : World} {K : PySem.W.Frag} {mg : Str → Option Value} {base : Heap}
abbrev s_BadCode___init__ : Stmt := inClass (top 3) 0
abbrev N_BadCode___init__ : List Str := ["self", "state"]
abbrev P_BadCode___init__ : List Str := ["self", "state"]
theorem sc_BadCode___init__ : FnScope N_BadCode___init__ P_BadCode___init__ (defScope s_BadCode___init__) := ⟨rfl, rfl, rfl, by decide +kernel, rfl, by decide +kernel, by decide +kernel⟩

theorem ok_bc {f B C fI : Addr} {fd : FuncData} (F : Fun K "__init__" "BadCode.__init__" s_BadCode___init__ f fd) (Tb : BaseT K mg "CodeError" B) (T : ErrT K mg "BadCode" "state" C fI) : FnOk P w K mg base CX0 1 f fd P_BadCode___init__ (spErr C "state") := by
  refine F.ok sc_BadCode___init__ (fun vs H Q E h => ?_) (fun cdv A outer s H vs Q E hr h => ?_)
  · obtain ⟨a, v, rfl, _⟩ := h
    rfl
  · obtain ⟨a, v, rfl, ha, k⟩ := h
    refine ⟨_, pss_cons (ps_expr (pe_clsinit Tb (by rfl) (pa_cons (pv 0) (pa_cons pe_str pa_nil)))) (pss_one (ps_ost (pv 0) (pv 1))), ?_⟩
    refine ⟨_, rfl, a, C, _, rfl, by show 1 ≤ 1000; decide, T.oex, ha, ?_⟩
    exact ⟨_, rfl, _, rfl, a, C, rfl, T.oex, T.nf, Or.inl ⟨ha, fun d h1 h2 => k d h1 h2⟩⟩
/-- the errors that leave: BadCode with its state -/
def EBC (CB : Addr) (H : Hp) (E : XK) (i : Nat) : Prop := ∀ d H', Raised H H' d "state" (.int i) → E (.ref CB) (some d) H'
theorem Raised.after {H H1 H' : Hp} {d : Addr} {f : Str} {v : V} (s : Same H H1) (r : Raised H1 H' d f v) : Raised H H' d f v := ⟨s.free r.1, r.2.1, s.trans r.2.2⟩
def okB (n : Int) (gb : Int × Int) : Bool := !(decide (0 ≤ gb.1) && decide (gb.1 < n))
def spCheck (K : PySem.W.Frag) (CB : Addr) : Sp := fun vs H Q E => ∃ (z : Str) (R Ev : V) (rs : List Row) (es : List Int), vs = [.str z, R, Ev] ∧ Rws K H R rs ∧ Ens K H Ev es ∧ z.length ≤ 26 ∧ rs.length ≤ 100 ∧ es.length ≤ 100 ∧ (∀ r ∈ rs, r.length ≤ 100) ∧
  (AllOk z.length rs es → ∀ H', Same H H' → Q .non H') ∧ (∀ i, BadAt z.length rs es i → EBC CB H E i)
abbrev s_check_states : Stmt := top 14
abbrev N_check_states : List Str := ["values", "rows", "ends", "many", "state", "row", "goal", "bits"]
abbrev P_check_states : List Str := ["values", "rows", "ends"]
theorem sc_check_states : FnScope N_check_states P_check_states (defScope s_check_states) := ⟨rfl, rfl, rfl, by decide +kernel, rfl, by decide +kernel, by decide +kernel⟩

theorem ok_check {f B CB fB' : Addr} {fd fdB : FuncData} (F : Fun K "check_states" "check_states" s_check_states f fd) (T : TxtC K mg B CB fB') (FB' : Fun K "__init__" "BadCode.__init__" s_BadCode___init__ fB' fdB) (bB' : Binds K fdB P_BadCode___init__ []) : FnOk P w K mg base (L2.CX P w) 3 f fd P_check_states (spCheck K CB) := by
  have GB' : FnOk P w K mg base CX0 1 fB' fdB P_BadCode___init__ (spErr CB "state") := ok_bc FB' T.base T.bc
  refine F.okX sc_check_states (fun vs H Q E h => ?_) (fun cdv A outer s H vs Q E hr h => ?_)
  · obtain ⟨z, R, Ev, rs, es, rfl, _⟩ := h
    rfl
  · obtain ⟨z, R, Ev, rs, es, rfl, hR, hE, hz, hl, hel, hrl, kq, ke⟩ := h
    refine ⟨_, (pss_cons (ps_set (i := 3) sc_check_states.nd rfl (Or.inr rfl) (pe_callB call_len (by rfl) T.len PySem.boot_len (pa_cons (pv 1) pa_nil)))
      (pss_cons (ps_for (passes_of rfl) rfl (pi_enumX (by rfl) T.enumerate (pa_cons (pv 1) pa_nil)) (pg_tup (by rfl) (pgs_cons (pg_name (i := 4) sc_check_states.nd rfl (Or.inl rfl)) (pgs_cons (pg_name (i := 5) sc_check_states.nd rfl (Or.inl rfl)) pgs_nil))) (pss_cons (ps_if (PW.pt (pw_or (pt_cmpR op_ne (pe_callB call_len (by rfl) T.len PySem.boot_len (pa_cons (pv 5) pa_nil)) (pe_callB call_len (by rfl) T.len PySem.boot_len (pa_cons (pv 0) pa_nil)) (nomark _)) (pw_or1 (pt_cmpR op_ge (pv 4) (pe_callB call_len (by rfl) T.len PySem.boot_len (pa_cons (pv 2) pa_nil)) (nomark _))))) (pss_one (ps_raise rfl (takes_of rfl rfl rfl rfl) (pmk_oex T.bc.oex T.bc.iC T.bc.tI GB' (hr.mono (by decide)) bB' .nil pass0 (by rfl) T.bc.g (pa_cons (pv 4) pa_nil)))) pss_nil)
      (pss_one (ps_if (pt_val (pe_callB (cr_any rfl) (by rfl) T.any boot_any (pa_cons (pe_lc (own := [("goal", 6), ("bits", 7)]) (g := gTup K 2 (gCons (gName 6) (gCons (gName 7) gNil))) (by rfl) sc_check_states.nd (pi_seq (K := K) rfl (pv 5)) (blkOk_by (own := [("goal", 6), ("bits", 7)]) (N := N_check_states) (sc := defScope s_check_states) (by decide +kernel)) (fun _ _ _ _ _ => (pg_tup (by rfl) (pgs_cons (pg_name (i := 6) sc_check_states.nd rfl (Or.inl rfl)) (pgs_cons (pg_name (i := 7) sc_check_states.nd rfl (Or.inl rfl)) pgs_nil)))) (fun _ _ _ _ _ => pts_nil) (fun _ _ _ _ _ => (pe_not (pe_chain op_le op_lt pe_int (pv 6) (pv 3))))) pa_nil))) (pss_one (ps_raise rfl (takes_of rfl rfl rfl rfl) (pmk_oex T.bc.oex T.bc.iC T.bc.tI GB' (hr.mono (by decide)) bB' .nil pass0 (by rfl) T.bc.g (pa_cons (pv 4) pa_nil)))) pss_nil))))
      (pss_one (ps_if (PW.pt (pw_or (pt_cmpR op_eq (pv 3) pe_int (nomark _)) (pw_or1 (pt_cmpR op_gt (pe_callB call_len (by rfl) T.len PySem.boot_len (pa_cons (pv 2) pa_nil)) (pv 3) (nomark _))))) (pss_one (ps_raise rfl (takes_of rfl rfl rfl rfl) (pmk_oex T.bc.oex T.bc.iC T.bc.tI GB' (hr.mono (by decide)) bB' .nil pass0 (by rfl) T.bc.g (pa_cons (pv 3) pa_nil)))) pss_nil)))), ?_⟩
    obtain ⟨r, xs, rfl, hr1, lr, hrow⟩ := hR.at
    obtain ⟨e, rfl, he1⟩ := hE.at
    have hzs : z.length ≤ sizeLine := Nat.le_of_lt (small1000 (by omega))
    refine ⟨_, rfl, _, _, rfl, hr1.len, ?_⟩
    refine ⟨_, rfl, r, xs, rfl, hr1, fun J hJ => for_it hJ (fun i σ H1 => ∃ v4 v5 v6 v7 : Option V, σ = [some (.str z), some (.ref r), some (.ref e), some (.int xs.length), v4, v5, v6, v7] ∧ Same H H1 ∧ ∀ (j : Nat) (hj : j < rs.length), j < i → ¬ badRow z.length rs.length es.length j rs[j])
      ⟨none, none, none, none, rfl, Same.refl H, fun j _ h => absurd h (Nat.not_lt_zero _)⟩ (fun i σ H1 _ ⟨_, _, _, _, _, s1, _⟩ => GSq.same s1) ?_ ?_⟩
    · rintro i x σ H1 H2 hi ⟨v4, v5, v6, v7, rfl, s1, hj⟩ ⟨q, b, rfl, hq, rfl, hb⟩
      have hi' : i < rs.length := by omega
      obtain ⟨w5, ts, rfl, hw1, hw2⟩ := hrow i hi' b hb
      have lt : ts.length = rs[i].length := by rw [hw2.length, List.length_map]
      have hri := hrl _ (List.getElem_mem hi')
      have s2 : Same H (L2.upd H1 q (.tup [.int i, .ref w5])) := s1.trans (same_new hq)
      refine ⟨q, _, rfl, SqT.of upd_same, rfl, _, _, rfl, _, _, rfl, rfl, ?_⟩
      generalize L2.upd H1 q (.tup [.int i, .ref w5]) = H3 at s2
      refine ⟨_, rfl, _, _, rfl, (hw1.same s2).len, _, rfl, _, _, rfl, ⟨hzs, rfl⟩, rfl, _, rfl, ?_⟩
      refine ite2 (fun c1 => ?_) (fun c1 => ?_)
      · have c1 : rs[i].length ≠ z.length := by simp [lt] at c1; omega
        have hbad : BadAt z.length rs es i := Or.inl ⟨hi', Or.inl c1, fun j hj' => hj j (by omega) hj'⟩
        refine ⟨_, rfl, by show 1 ≤ 1000; decide, fun a ha => ⟨a, _, rfl, upd_same, fun d hd hda => ⟨rfl, d, [("state", V.int i)], upd_same, ?_, ?_, ?_⟩⟩⟩
        · rw [upd_ne hda, upd_same]
        · rw [upd_ne hda] at hd; exact hd
        · rw [upd_ne hda] at hd
          exact ke i hbad d _ ((raised_of ha hd hda).after s2)
      have c1 : rs[i].length = z.length := by simp [lt] at c1; omega
      refine ⟨_, rfl, _, rfl, _, _, rfl, (he1.same s2).len, _, _, rfl, rfl, _, rfl, ite2 (fun c2 => ?_) (fun c2 => ?_)⟩
      · have c2 : es.length ≤ i := by simpa using c2
        have hbad : BadAt z.length rs es i := Or.inl ⟨hi', Or.inr (Or.inl c2), fun j hj' => hj j (by omega) hj'⟩
        refine ⟨_, rfl, by show 1 ≤ 1000; decide, fun a ha => ⟨a, _, rfl, upd_same, fun d hd hda => ⟨rfl, d, [("state", V.int i)], upd_same, ?_, ?_, ?_⟩⟩⟩
        · rw [upd_ne hda, upd_same]
        · rw [upd_ne hda] at hd; exact hd
        · rw [upd_ne hda] at hd
          exact ke i hbad d _ ((raised_of ha hd hda).after s2)
      have c2 : i < es.length := by simpa using c2
      -- any([..])
      refine ⟨_, rfl, w5, ts, rfl, hw1.same s2, fun J2 hJ2 D hD => lc_it hJ2 (fun j H4 => H4 D = some (.lst (((rs[i].take j).map (okB xs.length)).map V.bl)) ∧ Same H3 H4)
        ⟨upd_same, same_new hD⟩ (fun j H4 _ ⟨_, s4⟩ => GSq.same s4) ?_ ?_⟩
      · rintro j x H4' H4 hjt ⟨hD4, s4⟩ ⟨rfl, hx⟩
        obtain ⟨tt, hj', rfl, htt⟩ := tup_at hw2 hx
        refine ⟨tt, _, rfl, (Kl.same (s2.trans s4)).seqT htt, rfl, _, _, rfl, _, _, rfl, rfl, rfl, ?_⟩
        refine lcYes ?_
        have hlen : (((rs[i].take j).map (okB xs.length)).map V.bl).length < sizeLine := by
          rw [List.length_map, List.length_map, List.length_take]; exact small1000 (by omega)
        have ee : ∀ v : V, v = .bl (okB xs.length (rs[i][j])) → L2.upd H4 D (.lst (((rs[i].take j).map (okB xs.length)).map V.bl ++ [v])) D = some (.lst (((rs[i].take (j + 1)).map (okB xs.length)).map V.bl)) := fun v hv => by
          rw [upd_same, take_more hj', List.map_append, List.map_append, hv]; rfl
        refine ⟨_, rfl, _, _, rfl, rfl, _, rfl, ?_⟩
        by_cases g0 : 0 ≤ (rs[i][j]).1
        · rw [if_pos (decide_eq_true g0)]
          refine ⟨_, rfl, _, _, rfl, rfl, _, rfl, _, hD4, hlen, ee _ ?_, s4.put hD⟩
          unfold okB
          rw [decide_eq_true g0, Bool.true_and]
        · rw [if_neg (by simpa using g0)]
          refine ⟨_, rfl, _, hD4, hlen, ee _ ?_, s4.put hD⟩
          unfold okB
          rw [decide_eq_false g0]; rfl
      · rintro H4 ⟨hD4, s4⟩
        rw [lt, List.take_length] at hD4
        refine ⟨D, _, rfl, SqL.of hD4, _, rfl, ite2 (fun c3 => ?_) (fun c3 => ?_)⟩
        · have c3 : ∃ gb ∈ rs[i], ¬ (0 ≤ gb.1 ∧ gb.1 < rs.length) := by
            obtain ⟨b, hb1, hb2⟩ := List.any_eq_true.mp c3
            obtain ⟨gb, hgb, rfl⟩ := List.mem_map.mp hb1
            refine ⟨gb, hgb, fun h => ?_⟩
            have hb2 : okB xs.length gb = true := hb2
            unfold okB at hb2
            rw [decide_eq_true h.1, decide_eq_true (show gb.1 < (xs.length : Int) by rw [lr]; exact h.2)] at hb2
            exact Bool.noConfusion hb2
          have hbad : BadAt z.length rs es i := Or.inl ⟨hi', Or.inr (Or.inr c3), fun j hj' => hj j (by omega) hj'⟩
          have s5 : Same H H4 := s2.trans s4
          refine ⟨_, rfl, by show 1 ≤ 1000; decide, fun a ha => ⟨a, _, rfl, upd_same, fun d hd hda => ⟨rfl, d, [("state", V.int i)], upd_same, ?_, ?_, ?_⟩⟩⟩
          · rw [upd_ne hda, upd_same]
          · rw [upd_ne hda] at hd; exact hd
          · rw [upd_ne hda] at hd
            exact ke i hbad d _ ((raised_of ha hd hda).after s5)
        · refine ⟨_, _, _, _, rfl, s2.trans s4, fun j hjl hji => ?_⟩
          by_cases e : j = i
          · subst e
            rintro (h | h | ⟨gb, hgb, h⟩)
            · exact h c1
            · omega
            · refine c3 (List.any_eq_true.mpr ⟨true, List.mem_map.mpr ⟨gb, hgb, ?_⟩, rfl⟩)
              unfold okB
              rw [lr]
              by_cases h0 : 0 ≤ gb.1
              · have h1 : ¬ gb.1 < (rs.length : Int) := fun q => h ⟨h0, q⟩
                rw [decide_eq_false h1, Bool.and_false]; rfl
              · rw [decide_eq_false h0]; rfl
          · exact hj j hjl (by omega)
    · rintro σ H1 ⟨v4, v5, v6, v7, rfl, s1, hj⟩
      have hj : ∀ (j : Nat) (hj : j < rs.length), ¬ badRow z.length rs.length es.length j rs[j] := fun j h => hj j h (by omega)
      have bad : rs.length = 0 ∨ rs.length < es.length → BadAt z.length rs es rs.length := fun h => Or.inr ⟨rfl, hj, h⟩
      have hkb : BadAt z.length rs es rs.length → EBC CB H E rs.length := ke rs.length
      rw [← lr] at hkb
      refine ⟨_, rfl, rfl, _, rfl, ite2 (fun c1 => ?_) (fun c1 => ?_)⟩
      · have c1 : xs.length = 0 := by simpa using c1
        refine ⟨_, rfl, by show 1 ≤ 1000; decide, fun a ha => ⟨a, _, rfl, upd_same, fun d hd hda => ⟨rfl, d, [("state", V.int xs.length)], upd_same, ?_, ?_, ?_⟩⟩⟩
        · rw [upd_ne hda, upd_same]
        · rw [upd_ne hda] at hd; exact hd
        · rw [upd_ne hda] at hd
          exact hkb (by rw [lr]; exact bad (Or.inl (by omega))) d _ ((raised_of ha hd hda).after s1)
      have c1 : xs.length ≠ 0 := by simpa using c1
      refine ⟨_, rfl, _, _, rfl, (he1.same s1).len, _, rfl, _, _, rfl, rfl, _, rfl, ite2 (fun c2 => ?_) (fun c2 => ?_)⟩
      · have c2 : xs.length < es.length := by simpa using c2
        refine ⟨_, rfl, by show 1 ≤ 1000; decide, fun a ha => ⟨a, _, rfl, upd_same, fun d hd hda => ⟨rfl, d, [("state", V.int xs.length)], upd_same, ?_, ?_, ?_⟩⟩⟩
        · rw [upd_ne hda, upd_same]
        · rw [upd_ne hda] at hd; exact hd
        · rw [upd_ne hda] at hd
          exact hkb (by rw [lr]; exact bad (Or.inr (by omega))) d _ ((raised_of ha hd hda).after s1)
      have c2 : es.length ≤ xs.length := by simpa using c2
      exact kq ⟨hj, by omega, by omega⟩ _ s1
end
end Vf
set_option Elab.async false
set_option linter.all false
set_option maxRecDepth 100000
set_option maxHeartbeats 4000000
namespace Vf
open PySem L2 PyProof.Rows
theorem kLR : ¬ (("letters" : Str) = "rows") := by decide +kernel
theorem kLE : ¬ (("letters" : Str) = "ends") := by decide +kernel
theorem kRE : ¬ (("rows" : Str) = "ends") := by decide +kernel
/-- a code's attributes -/
def cflds (z : Str) (R E : V) : List (Str × V) := putF "ends" E (putF "rows" R (putF "letters" (.str z) []))
theorem cf_letters (z : Str) (R E : V) : (cflds z R E).lookup ("letters" : Str) = some (.str z) := by
  unfold cflds
  rw [lookup_putF, if_neg kLE, lookup_putF, if_neg kLR, lookup_putF, if_pos rfl]
theorem cf_rows (z : Str) (R E : V) : (cflds z R E).lookup ("rows" : Str) = some R := by
  unfold cflds
  rw [lookup_putF, if_neg kRE, lookup_putF, if_pos rfl]
theorem cf_ends (z : Str) (R E : V) : (cflds z R E).lookup ("ends" : Str) = some E := by
  unfold cflds
  rw [lookup_putF, if_pos rfl]
theorem cf_no (z : Str) (R E : V) {m : Str} (h1 : ¬ m = "letters") (h2 : ¬ m = "rows") (h3 : ¬ m = "ends") : (cflds z R E).lookup m = none := by
  unfold cflds
  rw [lookup_putF, if_neg h3, lookup_putF, if_neg h2, lookup_putF, if_neg h1]
  rfl
/-- a code's object -/
def CodeAt (K : PySem.W.Frag) (C : Addr) (H : Hp) (o : Addr) (z : Str) (rs : List Row) (es : List Int) : Prop :=
  ∃ dx R E, H o = some (.ins C dx (cflds z R E)) ∧ Dp K H R (rowsT rs) ∧ Dp K H E (intsT es)
/-- what is asked of the class -/
structure TxtK (K : PySem.W.Frag) (mg : Str → Option Value) (C fCS B CB fB' : Addr) : Prop extends TxtC K mg B CB fB' where
  cl : Cls K C
  nL : NoAttr K C "letters"
  nR : NoAttr K C "rows"
  nE : NoAttr K C "ends"
  mgCode : mg "Code" = some (.ref C)
  mcheck_states : mg "check_states" = some (.ref fCS)
  kcheck_states : PySem.W.keepIn K (.ref fCS) = true
/-- Code(..), right or wrong; what was there stays -/
def spInit (K : PySem.W.Frag) (C CB : Addr) : Sp := fun vs H Q E' => ∃ (o dx : Addr) (z : Str) (R E : V) (rs : List Row) (es : List Int), vs = [.ref o, .str z, R, E] ∧ H o = some (.ins C dx []) ∧ Rws K H R rs ∧ Ens K H E es ∧ z.length ≤ 26 ∧ rs.length ≤ 100 ∧ es.length ≤ 100 ∧ (∀ r ∈ rs, r.length ≤ 100) ∧
  (AllOk z.length rs es → ∀ H', CodeAt K C H' o z rs es → (∀ b u, H b = some u → b ≠ o → H' b = some u) → Q .non H') ∧ (∀ i, BadAt z.length rs es i → EBC CB H E' i)
section
variable {P : Program} {w : World} {K : PySem.W.Frag} {mg : Str → Option Value} {base : Heap}
abbrev s_Code___init__ : Stmt := inClass (top 13) 0
abbrev N_Code___init__ : List Str := ["self", "values", "rows", "ends", "row", "goal", "bits"]
abbrev P_Code___init__ : List Str := ["self", "values", "rows", "ends"]
theorem sc_Code___init__ : FnScope N_Code___init__ P_Code___init__ (defScope s_Code___init__) := ⟨rfl, rfl, rfl, by decide +kernel, rfl, by decide +kernel, by decide +kernel⟩

theorem ok_init {f fCS C B CB fB' : Addr} {fd fdCS fdB : FuncData} (F : Fun K "__init__" "Code.__init__" s_Code___init__ f fd) (T : TxtK K mg C fCS B CB fB') (FCS : Fun K "check_states" "check_states" s_check_states fCS fdCS) (bcheck_states : Binds K fdCS P_check_states [])
    (FB' : Fun K "__init__" "BadCode.__init__" s_BadCode___init__ fB' fdB) (bB' : Binds K fdB P_BadCode___init__ []) : FnOk P w K mg base (L2.CX P w) 4 f fd P_Code___init__ (spInit K C CB) := by
  have Gcheck_states : FnOk P w K mg base (L2.CX P w) 3 fCS fdCS P_check_states (spCheck K CB) := ok_check FCS T.toTxtC FB' bB'
  refine F.okX sc_Code___init__ (fun vs H Q E h => ?_) (fun cdv A outer s H vs Q E' hr h => ?_)
  · obtain ⟨o, dx, z, R, E, rs, es, rfl, _⟩ := h
    rfl
  · obtain ⟨o, dx, z, R, E, rs, es, rfl, ho, hR, hE, hz, hl, hel, hrl, kq, ke⟩ := h
    refine ⟨_, (pss_cons (ps_expr (pe_call Gcheck_states (hr.mono (by decide)) (by rfl) T.mcheck_states T.kcheck_states bcheck_states .nil (passes_call (takes_of rfl rfl rfl rfl) (fun _ _ _ _ h => h)) (pa_cons (pv 1) (pa_cons (pv 2) (pa_cons (pv 3) pa_nil)))))
      (pss_cons (ps_fld (pv 0) (pv 1) rfl)
      (pss_cons (ps_fld (pv 0) (pe_callTy call_tuple_of (by rfl) T.tuple boot_tuple (pa_cons (pe_lc (own := [("row", 4)]) (g := gName 4) (by rfl) sc_Code___init__.nd (pi_seq (K := K) rfl (pv 2)) (blkOk_by (own := [("row", 4)]) (N := N_Code___init__) (sc := defScope s_Code___init__) (by decide +kernel)) (fun _ _ _ _ _ => pg_name (i := 4) sc_Code___init__.nd rfl (Or.inl rfl)) (fun _ _ _ _ _ => pts_nil) (fun _ _ _ _ _ => (pe_callTy (call_tupleK (K := K) rfl) (by rfl) T.tuple boot_tuple (pa_cons (pe_lc (own := [("goal", 5), ("bits", 6)]) (g := gTup K 2 (gCons (gName 5) (gCons (gName 6) gNil))) (by rfl) sc_Code___init__.nd (pi_seq (K := K) rfl (pv 4)) (blkOk_by (own := [("goal", 5), ("bits", 6)]) (N := N_Code___init__) (by with_unfolding_all rfl)) (fun _ _ _ _ _ => (pg_tup (by rfl) (pgs_cons (pg_name (i := 5) sc_Code___init__.nd rfl (Or.inl rfl)) (pgs_cons (pg_name (i := 6) sc_Code___init__.nd rfl (Or.inl rfl)) pgs_nil)))) (fun _ _ _ _ _ => pts_nil) (fun _ _ _ _ _ => (pe_tup (pa_cons (pv 5) (pa_cons (pv 6) pa_nil))))) pa_nil)))) pa_nil)) rfl)
      (pss_one (ps_fld (pv 0) (pe_callTy call_tuple_of (by rfl) T.tuple boot_tuple (pa_cons (pv 3) pa_nil)) rfl))))), ?_⟩
    refine ⟨_, rfl, _, rfl, _, rfl, z, R, E, rs, es, rfl, hR, hE, hz, hl, hel, hrl, fun hok H1 s1 => ?_, fun i hb => ke i hb⟩
    have k := kq hok
    obtain ⟨r, xs, rfl, hr1, lr, hrow⟩ := hR.at
    obtain ⟨e, rfl, he1⟩ := hE.at
    have ho1 := s1 _ _ ho
    -- self.letters = values
    refine ⟨_, rfl, _, rfl, o, C, dx, [], rfl, ho1, T.cl, T.nL, (by show 0 < 1000; decide), ?_⟩
    have k2 : ∀ b u, H b = some u → b ≠ o → (L2.upd H1 o (.ins C dx (putF "letters" (.str z) []))) b = some u := fun b u h n => by rw [upd_ne n]; exact s1 b u h
    have ho2 : (L2.upd H1 o (.ins C dx (putF "letters" (.str z) []))) o = some (.ins C dx (putF "letters" (.str z) [])) := upd_same
    revert k2 ho2
    generalize L2.upd H1 o (.ins C dx (putF "letters" (.str z) [])) = H2
    intro k2 ho2
    have kl2 : Kl H H2 := fun b u h d => k2 b u h fun q => by rw [q, ho] at h; cases h; exact d
    -- self.rows = ..
    refine ⟨_, rfl, r, xs, rfl, hr1.kl kl2, fun J hJ D hD => lc_it hJ (fun i H4 => ∃ vs : List V, H4 D = some (.lst vs) ∧ DpAll K (L2.del H4 D) vs ((rs.take i).map rowT) ∧ Same H2 H4)
      ⟨[], upd_same, .nil, same_new hD⟩ (fun i H4 _ ⟨_, _, _, s4⟩ => GSq.same s4) ?_ ?_⟩
    · rintro i x H4' H4 hi ⟨vs, hD4, hd4, s4⟩ ⟨rfl, hx⟩
      have hi' : i < rs.length := by omega
      obtain ⟨w5, ts, rfl, hw1, hw2⟩ := hrow i hi' x hx
      have hri := hrl _ (List.getElem_mem hi')
      have lt : ts.length = rs[i].length := by rw [hw2.length, List.length_map]
      have kl4 : Kl H H4 := kl2.trans (Kl.same s4)
      refine ⟨rfl, ?_⟩
      refine lcYes ?_
      refine ⟨_, rfl, w5, ts, rfl, hw1.kl kl4, fun J2 hJ2 D2 hD2 => lc_it hJ2 (fun j H5 => ∃ us : List V, H5 D2 = some (.lst us) ∧ DpAll K (L2.del (L2.del H5 D) D2) us ((rs[i].take j).map tupD) ∧ Same H4 H5)
        ⟨[], upd_same, .nil, same_new hD2⟩ (fun j H5 _ ⟨_, _, _, s5⟩ => GSq.same s5) ?_ ?_⟩
      · rintro j y H5' H5 hjt ⟨us, hD5, hd5, s5⟩ ⟨rfl, hy⟩
        obtain ⟨tt, hj', rfl, htt⟩ := tup_at hw2 hy
        refine ⟨tt, _, rfl, (kl4.trans (Kl.same s5)).seqT htt, rfl, _, _, rfl, _, _, rfl, rfl, rfl, ?_⟩
        refine lcYes ?_
        refine ⟨_, rfl, _, rfl, (by show 2 ≤ sizeLine; decide), fun q hq => ⟨us, ?_, ?_, us ++ [.ref q], upd_same, ?_, ?_⟩⟩
        · rw [upd_ne (ne_of_none hD5 hq)]; exact hD5
        · rw [hd5.length, List.length_map, List.length_take]; exact small1000 (by omega)
        · have nqD2 : q ≠ D2 := (ne_of_none hD5 hq).symm
          have nqD : q ≠ D := (ne_of_none (s5 _ _ hD4) hq).symm
          rw [take_more hj', List.map_append]
          refine (hd5.mv fun b o e _ => ?_).snoc (.tup (SqT.of ?_) (.cons (.int _) (.cons (.int _) .nil)))
          · obtain ⟨h1, h2⟩ := del_some e
            obtain ⟨h3, h4⟩ := del_some h2
            rw [del_ne h1, del_ne h3, upd_ne h1, upd_ne (ne_of_none h4 hq)]
            exact h4
          · rw [del_ne nqD2, del_ne nqD, upd_ne nqD2, upd_same]
        · exact (s5.trans (same_new hq)).put hD2
      · rintro H5 ⟨us, hD5, hd5, s5⟩
        refine ⟨D2, us, rfl, Or.inl ⟨SqL.of hD5, fun t ht => ⟨vs, ?_, ?_, vs ++ [.ref t], upd_same, ?_, ?_⟩⟩⟩
        · rw [upd_ne (ne_of_none (s5 _ _ hD4) ht)]; exact s5 _ _ hD4
        · rw [hd4.length, List.length_map, List.length_take]; exact small1000 (by omega)
        · have ntD : t ≠ D := (ne_of_none (s5 _ _ hD4) ht).symm
          have e0 : Kl (L2.del H5 D) (L2.del (L2.upd (L2.upd H5 t (.tup us)) D (.lst (vs ++ [.ref t]))) D) := fun b o e _ => by
            obtain ⟨h1, h2⟩ := del_some e
            rw [del_ne h1, upd_ne h1, upd_ne (ne_of_none h2 ht)]
            exact h2
          rw [take_more hi', List.map_append]
          refine (hd4.mv (((Kl.same s5).del D).trans e0)).snoc (.tup (xs := us) (SqT.of ?_) ?_)
          · rw [del_ne ntD, upd_ne ntD, upd_same]
          · have := hd5.mv ((Kl.undel _ D2).trans e0)
            rw [lt, List.take_of_length_le (Nat.le_refl _)] at this
            exact this
        · exact ((s4.trans s5).trans (same_new ht)).put hD
    · rintro H4 ⟨vs, hD4, hd4, s4⟩
      rw [lr, List.take_of_length_le (Nat.le_refl _)] at hd4
      refine ⟨D, vs, rfl, Or.inl ⟨SqL.of hD4, fun t ht => ?_⟩⟩
      have s5 : Same H2 (L2.upd H4 t (.tup vs)) := s4.trans (same_new ht)
      have hT : Dp K (L2.upd H4 t (.tup vs)) (.ref t) (rowsT rs) := .tup (SqT.of upd_same) (hd4.mv ((Kl.undel _ _).trans (Kl.same (same_new ht))))
      revert s5 hT
      generalize L2.upd H4 t (.tup vs) = H5
      intro s5 hT
      have ho5 := s5 _ _ ho2
      refine ⟨_, rfl, o, C, dx, _, rfl, ho5, T.cl, T.nR, (by show 1 < 1000; decide), ?_⟩
      -- self.ends = tuple(ends)
      have hnko : ∀ b u, H b = some u → b ≠ o → (L2.upd H5 o (.ins C dx (putF "rows" (.ref t) (putF "letters" (.str z) [])))) b = some u := fun b u h n => by rw [upd_ne n]; exact s5 _ _ (k2 b u h n)
      have hT6 : Dp K (L2.upd H5 o (.ins C dx (putF "rows" (.ref t) (putF "letters" (.str z) [])))) (.ref t) (rowsT rs) := hT.mv fun b u h d => by
        rw [upd_ne (fun q => by rw [q, ho5] at h; cases h; exact d)]; exact h
      have ho6 : (L2.upd H5 o (.ins C dx (putF "rows" (.ref t) (putF "letters" (.str z) [])))) o = some (.ins C dx (putF "rows" (.ref t) (putF "letters" (.str z) []))) := upd_same
      revert hnko hT6 ho6
      generalize L2.upd H5 o (.ins C dx (putF "rows" (.ref t) (putF "letters" (.str z) []))) = H6
      intro hnko hT6 ho6
      have kl6 : Kl H H6 := fun b u h d => hnko b u h fun q => by rw [q, ho] at h; cases h; exact d
      have fin : ∀ (a : Addr) (H7 : Hp), Same H6 H7 → SqT K H7 a (es.map V.int) → Q .non (L2.upd H7 o (.ins C dx (cflds z (.ref t) (.ref a)))) := fun a H7 s7 ha => by
        have kl8 : Kl H7 (L2.upd H7 o (.ins C dx (cflds z (.ref t) (.ref a)))) := fun b u h d => by
          rw [upd_ne (fun q => by rw [q, s7 _ _ ho6] at h; cases h; exact d)]; exact h
        refine k _ ⟨dx, .ref t, .ref a, upd_same, (hT6.mv (Kl.same s7)).mv kl8, (Dp.tup ha (dpAll_ints K H7 es)).mv kl8⟩ fun b u h n => ?_
        rw [upd_ne n]
        exact s7 _ _ (hnko b u h n)
      rcases he1 with h1 | h1
      · exact ⟨_, rfl, e, _, rfl, Or.inl ⟨kl6.seq h1, fun a ha => ⟨_, rfl, o, C, dx, _, rfl, (same_new ha) _ _ ho6, T.cl, T.nE, (by show 2 < 1000; decide), fin a _ (same_new ha) (SqT.of upd_same)⟩⟩⟩
      · exact ⟨_, rfl, e, _, rfl, Or.inr ⟨kl6.seqT h1, ⟨_, rfl, o, C, dx, _, rfl, ho6, T.cl, T.nE, (by show 2 < 1000; decide), fin e _ (Same.refl _) (kl6.seqT h1)⟩⟩⟩
end
end Vf
set_option Elab.async false
set_option linter.all false
set_option maxRecDepth 100000
set_option maxHeartbeats 4000000
/-! == and len by an own __eq__, __len__: any answer -/
namespace Vf
open PySem PySem.Spec PyProof.Rows L2
section
variable {X : Cx} {CX : CXT} {n : Nat} {C f : Addr} {fd : FuncData} {ps : List Str} {sp : Sp} {E : XK}
theorem run_ok {A : Around} {pins : List (Addr × Obj)} {σ : L2.St} {H : Hp} {s : Shared} {us : List Value} {ws : List V} {Q : VK} (F : FnOk X.prog X.w X.K X.mg X.base CX n f fd ps sp) (hb : Binds X.K fd ps []) (hx : Passes CX X E) (sb : Sub X n A)
    (I : Inv X pins σ H s) (r : Vals ws us) (h : sp ws H Q E) : wpAny (model X.prog X.w) A (call (.ref f) us) (EP X pins σ Q) X.xe s := by
  have e0 : Env0 X.prog X.w X.K X.mg X.base A X.stack s H := by
    have e := I.env0
    exact ⟨by rw [sb.fr]; exact e.frames, e.mod, e.bs, e.bsz, e.funs, e.frf, e.hok, e.bare⟩
  have hl := F.len _ _ _ _ h
  refine wpAny_call (codeAny_mono (F.run A X.stack s H ⟨us, []⟩ us ws _ E sb.room e0 (by
    have hl2 : (us ++ []).length = ps.length := by rw [List.append_nil, ← r.length]; simpa using hl
    have := hb s us I.kIn hl2
    simpa using this) r h) fun r s' hq => ?_)
  cases r with
  | error e => exact hx pins σ H s e s' I hq
  | ok fl =>
    cases fl with
    | ret w => exact I.after hq
    | next => exact False.elim hq
    | brk => exact False.elim hq
    | cont => exact False.elim hq
/-- x op y, x an instance of the class at C whose def for op is at f; y another such instance -/
def rOwnI (C : Addr) (sp : Sp) (E : XK) : R2 := fun x y H Q => ∃ a dx fs b dy gs, x = .ref a ∧ y = .ref b ∧ H a = some (.ins C dx fs) ∧ H b = some (.ins C dy gs) ∧ sp [x, y] H Q E
theorem op_ownI {op : CmpOp} (hop : ∀ a b, compareOp op a b = richCompare op a b) (hs : PySem.W.findIn X.K (.ref C) (cmpInfo op).2.1 = some (some (.ref f))) (hf : PySem.W.isFn X.K (.ref f) = true) (F : FnOk X.prog X.w X.K X.mg X.base CX n f fd ps sp)
    (hr : Room n X.A) (hb : Binds X.K fd ps []) (hx : Passes CX X E) : OpR X (compareOp op) (rOwnI C sp E) := by
  intro pins s σ H x y v u Q I rx ry h
  obtain ⟨a, dx, fs, b, dy, gs, rfl, rfl, ha, hb', q⟩ := h
  cases (show v = Value.ref a from rx)
  cases (show u = Value.ref b from ry)
  obtain ⟨mA, J, _⟩ := ins_get I.hok ha
  obtain ⟨mB, J', _⟩ := ins_get I.hok hb'
  obtain ⟨od, J, _⟩ := J.look
  obtain ⟨od', J', _⟩ := J'.look
  obtain ⟨m, hF⟩ := I.fr
  rw [hop]
  refine PySem.W.cmp_K (op := op) (tb := .ref C) hr.units0 hF I.ok.mod.kin J J'.type (by simp [PySem.W.notFirst]) hs hf ?_
  refine wpAny_mono (run_ok (us := [.ref a, .ref b]) (ws := [.ref a, .ref b]) F hb hx ⟨hr, rfl⟩ I (.cons rfl (.cons rfl .nil)) q) (fun w s' z => ?_) fun _ _ x => x
  obtain ⟨z', H', I', rz, qz⟩ := z
  exact SlX.cmpback rz ⟨z', H', I', rz, qz⟩
/-- x op y, y a tuple -/
def rOwnT (K : PySem.W.Frag) (C : Addr) (sp : Sp) (E : XK) : R2 := fun x y H Q => ∃ a dx fs b ys, x = .ref a ∧ y = .ref b ∧ H a = some (.ins C dx fs) ∧ SqT K H b ys ∧ sp [x, y] H Q E
theorem op_ownT {op : CmpOp} (hop : ∀ a b, compareOp op a b = richCompare op a b) (hs : PySem.W.findIn X.K (.ref C) (cmpInfo op).2.1 = some (some (.ref f))) (hf : PySem.W.isFn X.K (.ref f) = true) (F : FnOk X.prog X.w X.K X.mg X.base CX n f fd ps sp)
    (hr : Room n X.A) (hb : Binds X.K fd ps []) (hx : Passes CX X E) (hn : PySem.W.subIn X.K (.type "tuple") (.ref C) = some false) : OpR X (compareOp op) (rOwnT X.K C sp E) := by
  intro pins s σ H x y v u Q I rx ry h
  obtain ⟨a, dx, fs, b, ys, rfl, rfl, ha, hb', q⟩ := h
  cases (show v = Value.ref a from rx)
  cases (show u = Value.ref b from ry)
  obtain ⟨mA, J, _⟩ := ins_get I.hok ha
  obtain ⟨od, J, _⟩ := J.look
  obtain ⟨m, hF⟩ := I.fr
  obtain ⟨its, r, ht, hz⟩ := I.tuple hb'
  obtain ⟨o, ho, hc, _⟩ := id ht
  have J' : PySem.W.Looks (model X.prog X.w) s.heap (typeOf (.ref b)) (.type "tuple") := fun A Q E s k q => wpAny_typeOf_ref (k _ _ ho) (by rw [hc]; exact q)
  rw [hop]
  refine PySem.W.cmp_K (op := op) (tb := .type "tuple") hr.units0 hF I.ok.mod.kin J J' (by simp [PySem.W.notFirst, hn]) hs hf ?_
  refine wpAny_mono (run_ok (us := [.ref a, .ref b]) (ws := [.ref a, .ref b]) F hb hx ⟨hr, rfl⟩ I (.cons rfl (.cons rfl .nil)) q) (fun w s' z => ?_) fun _ _ x => x
  obtain ⟨z', H', I', rz, qz⟩ := z
  exact SlX.cmpback rz ⟨z', H', I', rz, qz⟩
/-- len(x) by an own __len__ -/
def rLenI (C : Addr) (sp : Sp) (E : XK) : List V → Hp → VK → Prop := fun xs H Q => ∃ a dx fs, xs = [.ref a] ∧ H a = some (.ins C dx fs) ∧ sp [.ref a] H (fun z H' => ∃ k : Nat, z = .int k ∧ k ≤ sizeLine ∧ Q z H') E
theorem call_lenI (hs : PySem.W.findIn X.K (.ref C) "__len__" = some (some (.ref f))) (hf : PySem.W.isFn X.K (.ref f) = true) (F : FnOk X.prog X.w X.K X.mg X.base CX n f fd ps sp)
    (hr : Room (n + 1) X.A) (hb : Binds X.K fd ps []) (hx : Passes CX X E) : CallR X (.builtin "len") (rLenI C sp E) := by
  intro pins s σ H xs us Q I r h
  obtain ⟨a, dx, fs, rfl, ha, q⟩ := h
  obtain ⟨u, rfl, ru⟩ := vals1 r
  cases (show u = Value.ref a from ru)
  obtain ⟨mA, J, _⟩ := ins_get I.hok ha
  obtain ⟨od, J, _⟩ := J.look
  have hl := line63
  have hsz : sizeLine = 16777216 := sizeLine_eq
  refine Calls.call_function_entry PySem.kind_len PySem.plain_len PySem.entry_len (PySem.args_len1 _) ?_
  unfold Builtin.«len»
  refine wpAny_bind (m := oneArg "len" _) (wpAny_pure ?_)
  refine wpAny_bind (m := callSpecial? (.ref a) (PySem.Str.ofString "__len__")) (PySem.W.special_fn I.kIn J hs (beq_iff_eq.mp hf) (wpAny_mono (run_ok (us := [.ref a]) (ws := [.ref a]) F hb hx ?_ I (.cons rfl .nil) q) (fun w s' z => ?_) fun _ _ x => x))
  · exact ⟨hr.in1, rfl⟩
  · obtain ⟨z', H', I', rz, k, rfl, hk, qz⟩ := z
    obtain ⟨t, rfl⟩ := (show ∃ t, w = Value.int k t from rz)
    refine wpAny_bind (wpAny_holding (wpAny_pure ?_))
    refine wpAny_bind (wpAny_letGo ?_)
    show wpAny _ _ (if ((k : Nat) : Int) < 0 then _ else _) _ _ _
    rw [if_neg (by omega)]
    show wpAny _ _ (if ((k : Nat) : Int) ≥ 2 ^ 63 then _ else _) _ _ _
    rw [if_neg (by omega)]
    exact wpAny_bind (wpAny_mkInt (wpAny_pure ⟨_, rfl, .int k, H', I'.tok _, ⟨_, rfl⟩, qz⟩))
end
end Vf
set_option Elab.async false
set_option linter.all false
set_option maxRecDepth 100000
set_option maxHeartbeats 4000000
/-! equal data of codes -/
namespace Vf
open PySem L2 PyProof.Rows
theorem eqvAll_inj {α : Type} [DecidableEq α] {f : α → PyData} (h : ∀ x y, PyData.eqv (f x) (f y) = decide (x = y)) : ∀ xs ys : List α, PyData.eqvAll (xs.map f) (ys.map f) = decide (xs = ys)
  | [], [] => by simp [PyData.eqvAll]
  | [], _ :: _ => by simp [PyData.eqvAll]
  | _ :: _, [] => by simp [PyData.eqvAll]
  | x :: r, y :: t => by
    simp only [List.map_cons, PyData.eqvAll, h, eqvAll_inj h r t]
    rw [Bool.eq_iff_iff]
    simp
theorem eqv_int (x y : Int) : PyData.eqv (.int x) (.int y) = decide (x = y) := by
  rw [Bool.eq_iff_iff]; simp [PyData.eqv]
theorem eqv_tupD (x y : Int × Int) : PyData.eqv (tupD x) (tupD y) = decide (x = y) := by
  obtain ⟨a, b⟩ := x
  obtain ⟨c, d⟩ := y
  rw [Bool.eq_iff_iff]
  simp [tupD, PyData.eqv, PyData.eqvAll]
theorem eqv_rowT (x y : Row) : PyData.eqv (rowT x) (rowT y) = decide (x = y) := by
  show PyData.eqv (.tuple (x.map tupD)) (.tuple (y.map tupD)) = _
  rw [PyData.eqv]; exact eqvAll_inj eqv_tupD x y
theorem eqv_rowD (x y : Row) : PyData.eqv (rowD x) (rowD y) = decide (x = y) := by
  show PyData.eqv (.list (x.map tupD)) (.list (y.map tupD)) = _
  rw [PyData.eqv]; exact eqvAll_inj eqv_tupD x y
theorem eqv_rowsT (x y : List Row) : PyData.eqv (rowsT x) (rowsT y) = decide (x = y) := by
  show PyData.eqv (.tuple (x.map rowT)) (.tuple (y.map rowT)) = _
  rw [PyData.eqv]; exact eqvAll_inj eqv_rowT x y
theorem eqv_rowsD (x y : List Row) : PyData.eqv (rowsD x) (rowsD y) = decide (x = y) := by
  show PyData.eqv (.list (x.map rowD)) (.list (y.map rowD)) = _
  rw [PyData.eqv]; exact eqvAll_inj eqv_rowD x y
theorem eqv_intsT (x y : List Int) : PyData.eqv (intsT x) (intsT y) = decide (x = y) := by
  show PyData.eqv (.tuple (x.map PyData.int)) (.tuple (y.map PyData.int)) = _
  rw [PyData.eqv]; exact eqvAll_inj eqv_int x y
theorem eqv_intsD (x y : List Int) : PyData.eqv (intsD x) (intsD y) = decide (x = y) := by
  show PyData.eqv (.list (x.map PyData.int)) (.list (y.map PyData.int)) = _
  rw [PyData.eqv]; exact eqvAll_inj eqv_int x y
theorem lay_all {α : Type} {f : α → PyData} (h : ∀ x, PyData.canLay0 (f x) = true) : ∀ xs : List α, PyData.canLayAll0 (xs.map f) = true
  | [] => by simp [PyData.canLayAll0]
  | x :: r => by simp [PyData.canLayAll0, h x, lay_all h r]
theorem depth_all {α : Type} {f : α → PyData} {n : Nat} (h : ∀ x, PyData.depth (f x) ≤ n) : ∀ xs : List α, PyData.depthAll (xs.map f) ≤ n
  | [] => by simp [PyData.depthAll]
  | x :: r => by rw [List.map_cons, PyData.depthAll]; exact Nat.max_le.mpr ⟨h x, depth_all h r⟩
theorem lay_tupD (x : Int × Int) : PyData.canLay0 (tupD x) = true := by simp [tupD, PyData.canLay0, PyData.canLayAll0]
theorem dep_tupD (x : Int × Int) : PyData.depth (tupD x) ≤ 1 := by simp [tupD, PyData.depth, PyData.depthAll]
theorem shaped_of {d : PyData} {n : Nat} (h : d.canLay0 = true) (hd : d.depth ≤ n) (hn : n ≤ 64) : SeqAt.shaped d = true := by
  unfold SeqAt.shaped
  rw [h, Bool.true_and]
  exact decide_eq_true (Nat.le_trans hd hn)
theorem lay_rowT (x : Row) : PyData.canLay0 (rowT x) = true := by rw [rowT, PyData.canLay0]; exact lay_all lay_tupD x
theorem lay_rowD (x : Row) : PyData.canLay0 (rowD x) = true := by rw [rowD, PyData.canLay0]; exact lay_all lay_tupD x
theorem dep_rowT (x : Row) : PyData.depth (rowT x) ≤ 2 := by rw [rowT, PyData.depth]; have := depth_all dep_tupD x; omega
theorem dep_rowD (x : Row) : PyData.depth (rowD x) ≤ 2 := by rw [rowD, PyData.depth]; have := depth_all dep_tupD x; omega
theorem lay_rowsT (x : List Row) : PyData.canLay0 (rowsT x) = true := by rw [rowsT, PyData.canLay0]; exact lay_all lay_rowT x
theorem lay_rowsD (x : List Row) : PyData.canLay0 (rowsD x) = true := by rw [rowsD, PyData.canLay0]; exact lay_all lay_rowD x
theorem dep_rowsT (x : List Row) : PyData.depth (rowsT x) ≤ 3 := by rw [rowsT, PyData.depth]; have := depth_all dep_rowT x; omega
theorem dep_rowsD (x : List Row) : PyData.depth (rowsD x) ≤ 3 := by rw [rowsD, PyData.depth]; have := depth_all dep_rowD x; omega
theorem lay_int (x : Int) : PyData.canLay0 (.int x) = true := by simp [PyData.canLay0]
theorem dep_int (x : Int) : PyData.depth (.int x) ≤ 0 := by simp [PyData.depth]
theorem lay_intsT (x : List Int) : PyData.canLay0 (intsT x) = true := by rw [intsT, PyData.canLay0]; exact lay_all lay_int x
theorem lay_intsD (x : List Int) : PyData.canLay0 (intsD x) = true := by rw [intsD, PyData.canLay0]; exact lay_all lay_int x
theorem dep_intsT (x : List Int) : PyData.depth (intsT x) ≤ 1 := by rw [intsT, PyData.depth]; have := depth_all dep_int x; omega
theorem dep_intsD (x : List Int) : PyData.depth (intsD x) ≤ 1 := by rw [intsD, PyData.depth]; have := depth_all dep_int x; omega
theorem shaped_rowsT (x : List Row) : SeqAt.shaped (rowsT x) = true := shaped_of (lay_rowsT x) (dep_rowsT x) (by decide)
theorem shaped_rowsD (x : List Row) : SeqAt.shaped (rowsD x) = true := shaped_of (lay_rowsD x) (dep_rowsD x) (by decide)
theorem shaped_intsT (x : List Int) : SeqAt.shaped (intsT x) = true := shaped_of (lay_intsT x) (dep_intsT x) (by decide)
theorem shaped_intsD (x : List Int) : SeqAt.shaped (intsD x) = true := shaped_of (lay_intsD x) (dep_intsD x) (by decide)
end Vf
set_option Elab.async false
set_option linter.all false
set_option maxRecDepth 100000
set_option maxHeartbeats 4000000
namespace Vf
open PySem L2 PyProof.Rows
/-- what isinstance asks of the class -/
structure TxtQ (K : PySem.W.Frag) (mg : Str → Option Value) (C fCS B CB fB' fEq fLn : Addr) : Prop extends TxtK K mg C fCS B CB fB' where
  isinstance : mg "isinstance" = none
  ca : PySem.W.findIn K (.ref C) "__class__" = some (some (.builtin "object.__class__"))
  cn : PySem.W.specialIn K (.builtin "object.__class__") "__get__" = some (some (.builtin "getset_descriptor.__get__"))
  ct : PySem.W.takesIn K (.builtin "object.__class__") = some true
  cm : PySem.W.mroIn K C (.type "object") = some true
  kc : PySem.W.kitOne K (.ref C) (.ref C) = some true
  kt : PySem.W.kitOne K (.type "tuple") (.ref C) = some false
  eqs : PySem.W.findIn K (.ref C) "__eq__" = some (some (.ref fEq))
  eqf : PySem.W.isFn K (.ref fEq) = true
  lns : PySem.W.findIn K (.ref C) "__len__" = some (some (.ref fLn))
  lnf : PySem.W.isFn K (.ref fLn) = true
  tsub : PySem.W.subIn K (.type "tuple") (.ref C) = some false
section
variable {P : Program} {w : World} {K : PySem.W.Frag} {mg : Str → Option Value} {base : Heap}
def spLn (K : PySem.W.Frag) (C : Addr) : Sp := fun vs H Q _ => ∃ (o : Addr) (z : Str) (rs : List Row) (es : List Int), vs = [.ref o] ∧ CodeAt K C H o z rs es ∧ ∀ H', Same H H' → Q (.int rs.length) H'
abbrev s_Code___len__ : Stmt := inClass (top 13) 2
abbrev N_Code___len__ : List Str := ["self"]
abbrev P_Code___len__ : List Str := ["self"]
theorem sc_Code___len__ : FnScope N_Code___len__ P_Code___len__ (defScope s_Code___len__) := ⟨rfl, rfl, rfl, by decide +kernel, rfl, by decide +kernel, by decide +kernel⟩

theorem ok_ln {f C fCS B CB fB' fEq fLn : Addr} {fd : FuncData} (F : Fun K "__len__" "Code.__len__" s_Code___len__ f fd) (T : TxtQ K mg C fCS B CB fB' fEq fLn) : FnOk P w K mg base CX0 1 f fd P_Code___len__ (spLn K C) := by
  refine F.ok sc_Code___len__ (fun vs H Q E h => ?_) (fun cdv A outer s H vs Q E hr h => ?_)
  · obtain ⟨o, z, rs, es, rfl, _⟩ := h
    rfl
  · obtain ⟨o, z, rs, es, rfl, ⟨dx, R, Ev, ho, hR, hE⟩, k⟩ := h
    refine ⟨_, (pss_one (ps_ret (pe_callB call_len (by rfl) T.len PySem.boot_len (pa_cons (pe_fld (pv 0) rfl) pa_nil)))), ?_⟩
    obtain ⟨r, xs, rfl, h1, h2⟩ := hR.tupE
    refine ⟨_, rfl, o, C, dx, _, _, rfl, ho, T.cl, T.nR, cf_rows _ _ _, _, _, rfl, Or.inr ⟨_, h1, rfl⟩, ?_⟩
    rw [show xs.length = rs.length by rw [h2.length, List.length_map]]
    exact k H (Same.refl H)
/-- a code beside a code, or beside a tuple -/
def spEqC (K : PySem.W.Frag) (C : Addr) : Sp := fun vs H Q _ => ∃ (o : Addr) (y : V) (z : Str) (rs : List Row) (es : List Int), vs = [.ref o, y] ∧ CodeAt K C H o z rs es ∧
  ((∃ (o2 : Addr) (z2 : Str) (rs2 : List Row) (es2 : List Int), y = .ref o2 ∧ CodeAt K C H o2 z2 rs2 es2 ∧ ∀ H', Same H H' → Q (.bl (decide (z = z2) && (decide (rs = rs2) && decide (es = es2)))) H') ∨
    (∃ (q : Addr) (ys : List V), y = .ref q ∧ H q = some (.tup ys) ∧ ∀ H', Same H H' → Q (.bl false) H'))
abbrev s_Code___eq__ : Stmt := inClass (top 13) 1
abbrev N_Code___eq__ : List Str := ["self", "other"]
abbrev P_Code___eq__ : List Str := ["self", "other"]
theorem sc_Code___eq__ : FnScope N_Code___eq__ P_Code___eq__ (defScope s_Code___eq__) := ⟨rfl, rfl, rfl, by decide +kernel, rfl, by decide +kernel, by decide +kernel⟩

theorem ok_eq {f C fCS B CB fB' fEq fLn : Addr} {fd : FuncData} (F : Fun K "__eq__" "Code.__eq__" s_Code___eq__ f fd) (T : TxtQ K mg C fCS B CB fB' fEq fLn) : FnOk P w K mg base CX0 1 f fd P_Code___eq__ (spEqC K C) := by
  refine F.ok sc_Code___eq__ (fun vs H Q E h => ?_) (fun cdv A outer s H vs Q E hr h => ?_)
  · obtain ⟨o, y, z, rs, es, rfl, _⟩ := h
    rfl
  · obtain ⟨o, y, z, rs, es, rfl, ⟨dx, R, Ev, ho, hR, hE⟩, h⟩ := h
    refine ⟨_, (pss_one (ps_ret (pe_and (pe_callB call_isi (by rfl) T.isinstance boot_isinstance (pa_cons (pv 1) (pa_cons (pe_glob (by rfl) T.mgCode (v := .ref C) rfl) pa_nil))) (pe_and (pe_cmpR op_eq (pe_fld (pv 0) rfl) (pe_fld (pv 1) rfl) (nomark _)) (pe_and (pe_cmpR (op_eqD hr.units) (pe_fld (pv 0) rfl) (pe_fld (pv 1) rfl) (nomark _)) (pe_one (pe_cmpR (op_eqD hr.units) (pe_fld (pv 0) rfl) (pe_fld (pv 1) rfl) (nomark _)))))))), ?_⟩
    rcases h with ⟨o2, z2, rs2, es2, rfl, ⟨dx2, R2, Ev2, ho2, hR2, hE2⟩, k⟩ | ⟨q, ys, rfl, hq, k⟩
    · refine ⟨_, rfl, _, _, _, _, _, rfl, .own C, .base (.ins ho2 T.cl T.ca T.cn T.ct T.cm), T.kc, true, rfl, ?_⟩
      rw [if_pos rfl]
      refine ⟨_, rfl, o, C, dx, _, _, rfl, ho, T.cl, T.nL, cf_letters _ _ _, _, rfl, o2, C, dx2, _, _, rfl, ho2, T.cl, T.nL, cf_letters _ _ _, rfl, _, rfl, ?_⟩
      by_cases hz : z = z2
      · rw [if_pos (decide_eq_true (congrArg V.str hz))]
        refine ⟨_, rfl, o, C, dx, _, _, rfl, ho, T.cl, T.nR, cf_rows _ _ _, _, rfl, o2, C, dx2, _, _, rfl, ho2, T.cl, T.nR, cf_rows _ _ _, rowsT rs, rowsT rs2, hR, hR2, shaped_rowsT _, shaped_rowsT _, _, rfl, ?_⟩
        rw [eqv_rowsT]
        by_cases hr2 : rs = rs2
        · rw [if_pos (decide_eq_true hr2)]
          refine ⟨_, rfl, o, C, dx, _, _, rfl, ho, T.cl, T.nE, cf_ends _ _ _, _, rfl, o2, C, dx2, _, _, rfl, ho2, T.cl, T.nE, cf_ends _ _ _, intsT es, intsT es2, hE, hE2, shaped_intsT _, shaped_intsT _, ?_⟩
          rw [eqv_intsT]
          have := k H (Same.refl H)
          rw [decide_eq_true hz, decide_eq_true hr2, Bool.true_and, Bool.true_and] at this
          exact this
        · rw [if_neg (by simpa using hr2)]
          have := k H (Same.refl H)
          rw [decide_eq_true hz, decide_eq_false hr2, Bool.true_and, Bool.false_and] at this
          exact this
      · rw [if_neg (by simpa using hz)]
        have := k H (Same.refl H)
        rw [decide_eq_false hz, Bool.false_and] at this
        exact this
    · refine ⟨_, rfl, _, _, _, _, _, rfl, .own C, .base (.tup hq), T.kt, false, rfl, ?_⟩
      rw [if_neg (by decide)]
      exact k H (Same.refl H)
end
end Vf
set_option Elab.async false
set_option linter.all false
set_option maxRecDepth 100000
set_option maxHeartbeats 4000000
namespace Vf
open PySem L2 PyProof.Rows
structure TxtG (mg : Str → Option Value) : Prop where
  range : mg "range" = none
  len : mg "len" = none
section
variable {P : Program} {w : World} {K : PySem.W.Frag} {mg : Str → Option Value} {base : Heap}
def spWrong (K : PySem.W.Frag) : Sp := fun vs H Q _ => ∃ (z : Str) (R Ev : V) (rs : List Row) (es : List Int), vs = [.str z, R, Ev] ∧ Dp K H R (rowsD rs) ∧ Dp K H Ev (intsD es) ∧ z.length ≤ 26 ∧ rs.length ≤ 100 ∧ es.length ≤ 100 ∧ (∀ r ∈ rs, r.length ≤ 100) ∧ 0 < rs.length ∧
  (AllOk z.length rs es → ∀ H', Same H H' → Q .non H') ∧ (∀ i : Nat, BadAt z.length rs es i → ∀ H', Same H H' → Q (.int i) H')
abbrev s__law_wrong : Stmt := top 25
abbrev N__law_wrong : List Str := ["_law_letters_here", "_law_rows", "_law_ends", "_law_state", "_law_goal", "_law_bits_here"]
abbrev P__law_wrong : List Str := ["_law_letters_here", "_law_rows", "_law_ends"]
theorem sc__law_wrong : FnScope N__law_wrong P__law_wrong (defScope s__law_wrong) := ⟨rfl, rfl, rfl, by decide +kernel, rfl, by decide +kernel, by decide +kernel⟩

theorem ok_wrong {f : Addr} {fd : FuncData} (F : Fun K "_law_wrong" "_law_wrong" s__law_wrong f fd) (T : TxtG mg) : FnOk P w K mg base CX0 1 f fd P__law_wrong (spWrong K) := by
  refine F.ok sc__law_wrong (fun vs H Q E h => ?_) (fun cdv A outer s H vs Q E hr h => ?_)
  · obtain ⟨z, R, Ev, rs, es, rfl, _⟩ := h
    rfl
  · obtain ⟨z, R, Ev, rs, es, rfl, hR, hE, hz, hl, hel, hrl, hpos, kq, ke⟩ := h
    refine ⟨_, (pss_cons (ps_for PassesOwn.never rfl (pi_range1 (by rfl) T.range (pa_cons (pe_callB call_len (by rfl) T.len PySem.boot_len (pa_cons (pv 1) pa_nil)) pa_nil)) (pg_name (i := 3) sc__law_wrong.nd rfl (Or.inl rfl)) (pss_cons (ps_if (PW.pt (pw_or (pt_cmpR op_ne (pe_callB call_len (by rfl) T.len PySem.boot_len (pa_cons (pe_ix ix_list (pv 1) (pv 3) (fun _ _ => rfl)) pa_nil)) (pe_callB call_len (by rfl) T.len PySem.boot_len (pa_cons (pv 0) pa_nil)) (nomark _)) (pw_or1 (pt_cmpR op_ge (pv 3) (pe_callB call_len (by rfl) T.len PySem.boot_len (pa_cons (pv 2) pa_nil)) (nomark _))))) (pss_one (ps_ret (pv 3))) pss_nil)
      (pss_one (ps_if (pt_cmpR (op_neD hr.units) (pe_lc (own := [("_law_goal", 4), ("_law_bits_here", 5)]) (g := gTup K 2 (gCons (gName 4) (gCons (gName 5) gNil))) (by rfl) sc__law_wrong.nd (pi_list (pe_ix ix_list (pv 1) (pv 3) (fun _ _ => rfl))) (blkOk_by (own := [("_law_goal", 4), ("_law_bits_here", 5)]) (N := N__law_wrong) (sc := defScope s__law_wrong) (by decide +kernel)) (fun _ _ _ _ _ => (pg_tup (by rfl) (pgs_cons (pg_name (i := 4) sc__law_wrong.nd rfl (Or.inl rfl)) (pgs_cons (pg_name (i := 5) sc__law_wrong.nd rfl (Or.inl rfl)) pgs_nil)))) (fun _ _ _ _ _ => (pts_one (pt_not (pt_chain op_le op_lt pe_int (pv 4) (pe_callB (call_lenK (K := K) rfl) (by rfl) T.len PySem.boot_len (pa_cons (pv 1) pa_nil)))))) (fun _ _ _ _ _ => (pv 4))) (pe_lst pa_nil) (nomark _)) (pss_one (ps_ret (pv 3))) pss_nil))))
      (pss_one (ps_ret (pe_ifExp (pt_cmpR op_gt (pe_callB call_len (by rfl) T.len PySem.boot_len (pa_cons (pv 2) pa_nil)) (pe_callB call_len (by rfl) T.len PySem.boot_len (pa_cons (pv 1) pa_nil)) (nomark _)) (pe_callB call_len (by rfl) T.len PySem.boot_len (pa_cons (pv 1) pa_nil)) pe_non)))), ?_⟩
    obtain ⟨r, xs, rfl, hr1, hr2⟩ := hR.listE
    obtain ⟨e, ys, rfl, he1, he2⟩ := hE.listE
    obtain rfl := dpAll_intsE he2
    have lr : xs.length = rs.length := by rw [hr2.length, List.length_map]
    have le : (es.map V.int).length = es.length := List.length_map _
    have hzs : z.length ≤ sizeLine := Nat.le_of_lt (small1000 (by omega))
    refine ⟨_, rfl, _, _, rfl, Or.inl ⟨_, hr1, rfl⟩, (xs.length : Int), rfl, by omega, by omega, for_range (n := xs.length) (fun i σ H1 => ∃ v3 v4 v5 : Option V, σ = [some (.str z), some (.ref r), some (.ref e), v3, v4, v5] ∧ Same H H1 ∧ ∀ (j : Nat) (hj : j < rs.length), j < i → ¬ badRow z.length rs.length es.length j rs[j])
      ⟨none, none, none, rfl, Same.refl H, fun j _ h => absurd h (Nat.not_lt_zero _)⟩ ?_ ?_⟩
    · rintro i σ H1 hi ⟨v3, v4, v5, rfl, s1, hj⟩
      have hi : i < rs.length := by have : i < xs.length := hi; omega
      obtain ⟨v, hv, hrow⟩ := hr2.get (i := i) (d := rowD rs[i]) (by rw [List.getElem?_map, List.getElem?_eq_getElem hi]; rfl)
      obtain ⟨w5, ts, rfl, hw1, hw2⟩ := hrow.listE
      have lt : ts.length = rs[i].length := by rw [hw2.length, List.length_map]
      have hri := hrl _ (List.getElem_mem hi)
      have e0 : (0 : Int) + (i : Nat) = ((i : Nat) : Int) := by omega
      refine ⟨_, rfl, _, rfl, r, xs, _, _, rfl, rfl, s1.seq hr1, at_of e0 hv, _, _, rfl, Or.inl ⟨_, s1.seq hw1, rfl⟩, _, rfl, _, _, rfl, ⟨hzs, rfl⟩, rfl, _, rfl, ite2 (fun c1 => ?_) (fun c1 => ?_)⟩
      · have c1 : rs[i].length ≠ z.length := by simp [lt] at c1; omega
        have hbad : BadAt z.length rs es i := Or.inl ⟨hi, Or.inl c1, fun j hj' => hj j (by omega) hj'⟩
        refine ⟨_, rfl, ?_⟩
        rw [e0]; exact ke i hbad H1 s1
      have c1 : rs[i].length = z.length := by simp [lt] at c1; omega
      refine ⟨_, rfl, _, rfl, _, _, rfl, Or.inl ⟨_, s1.seq he1, rfl⟩, _, _, rfl, rfl, _, rfl, ite2 (fun c2 => ?_) (fun c2 => ?_)⟩
      · have c2 : es.length ≤ i := by simpa using c2
        have hbad : BadAt z.length rs es i := Or.inl ⟨hi, Or.inr (Or.inl c2), fun j hj' => hj j (by omega) hj'⟩
        refine ⟨_, rfl, ?_⟩
        rw [e0]; exact ke i hbad H1 s1
      have c2 : i < es.length := by simpa using c2
      refine ⟨_, rfl, _, rfl, r, xs, _, _, rfl, rfl, s1.seq hr1, at_of e0 hv, w5, rfl, ⟨_, s1.seq hw1⟩, fun D hD => lc_list (K := K) (a := w5) (xs := ts) (fun j H4 => H4 D = some (.lst ((((rs[i].take j).filter (okB rs.length)).map Prod.fst).map V.int)) ∧ Same H1 H4)
        ⟨upd_same, same_new hD⟩ (fun j H4 _ ⟨_, s4⟩ => (s1.trans s4).seq hw1) ?_ ?_⟩
      · rintro j x H4 hx ⟨hD4, s4⟩
        obtain ⟨tt, hj', rfl, htt⟩ := tup_at hw2 hx
        refine ⟨tt, _, rfl, (Kl.same (s1.trans s4)).seqT htt, rfl, _, _, rfl, _, _, rfl, rfl, rfl, ?_⟩
        have hlen : ((((rs[i].take j).filter (okB rs.length)).map Prod.fst).map V.int).length < sizeLine := by
          rw [List.length_map, List.length_map]
          refine Nat.lt_of_le_of_lt (List.length_filter_le _ _) ?_
          rw [List.length_take]; exact small1000 (by omega)
        have yes : okB rs.length (rs[i][j]) = true → L2.upd H4 D (.lst ((((rs[i].take j).filter (okB rs.length)).map Prod.fst).map V.int ++ [V.int (rs[i][j]).1])) D = some (.lst ((((rs[i].take (j + 1)).filter (okB rs.length)).map Prod.fst).map V.int)) := fun h => by
          rw [upd_same, take_more hj', List.filter_append, List.filter_cons_of_pos h, List.map_append, List.map_append]; rfl
        have no : ¬ okB rs.length (rs[i][j]) = true → H4 D = some (.lst ((((rs[i].take (j + 1)).filter (okB rs.length)).map Prod.fst).map V.int)) := fun h => by
          rw [hD4, take_more hj', List.filter_append, List.filter_cons_of_neg h, List.filter_nil, List.append_nil]
        refine ⟨_, rfl, _, _, rfl, rfl, _, rfl, ?_⟩
        by_cases g0 : 0 ≤ (rs[i][j]).1
        · rw [if_pos (decide_eq_true g0)]
          refine ⟨_, rfl, _, _, rfl, Or.inl ⟨_, (s1.trans s4).seq hr1, rfl⟩, _, _, rfl, rfl, _, rfl, ?_⟩
          refine ite2 (fun c3 => ?_) (fun c3 => ?_)
          · refine ⟨_, rfl, _, hD4, hlen, yes ?_, s4.put hD⟩
            have c3 : (!decide ((rs[i][j]).1 < (xs.length : Int))) = true := c3
            rw [lr] at c3
            unfold okB
            rw [decide_eq_true g0, Bool.true_and]; exact c3
          · refine ⟨no fun h => c3 ?_, s4⟩
            unfold okB at h
            rw [decide_eq_true g0, Bool.true_and] at h
            show (!decide ((rs[i][j]).1 < (xs.length : Int))) = true
            rw [lr]; exact h
        · rw [if_neg (by simpa using g0)]
          refine ⟨_, rfl, _, rfl, _, hD4, hlen, yes ?_, s4.put hD⟩
          unfold okB
          rw [decide_eq_false g0]; rfl
      · rintro H4 ⟨hD4, s4⟩
        rw [lt, List.take_length] at hD4
        have s5 : Same H H4 := s1.trans s4
        refine ⟨by show 0 ≤ sizeLine; decide, fun N hN => ⟨.list (((rs[i].filter (okB rs.length)).map Prod.fst).map PyData.int), .list [], .lst (SqL.of ((same_new hN) _ _ hD4)) (dpAll_ints K _ _), .lst (SqL.of upd_same) .nil, shaped_intsD _, shaped_intsD [], ?_⟩⟩
        have ev : PyData.eqv (.list (((rs[i].filter (okB rs.length)).map Prod.fst).map PyData.int)) (.list []) = decide ((rs[i].filter (okB rs.length)).map Prod.fst = []) := eqv_intsD _ []
        rw [ev]
        refine ⟨_, rfl, ite2 (fun c3 => ?_) (fun c3 => ?_)⟩
        · have c3 : (rs[i].filter (okB rs.length)).map Prod.fst ≠ [] := by simpa using c3
          have hbad : BadAt z.length rs es i := by
            refine Or.inl ⟨hi, Or.inr (Or.inr ?_), fun j hj' => hj j (by omega) hj'⟩
            cases ef : rs[i].filter (okB rs.length) with
            | nil => rw [ef] at c3; exact absurd rfl c3
            | cons gb q =>
              have : gb ∈ rs[i].filter (okB rs.length) := by rw [ef]; exact List.mem_cons_self ..
              obtain ⟨h1, h2⟩ := List.mem_filter.mp this
              refine ⟨gb, h1, fun h => ?_⟩
              unfold okB at h2
              rw [decide_eq_true h.1, decide_eq_true h.2] at h2
              exact Bool.noConfusion h2
          refine ⟨_, rfl, ?_⟩
          rw [e0]; exact ke i hbad _ (s5.trans (same_new hN))
        · have c3 : (rs[i].filter (okB rs.length)).map Prod.fst = [] := by simpa using c3
          refine ⟨_, _, _, rfl, s5.trans (same_new hN), fun j hjl hji => ?_⟩
          by_cases e : j = i
          · subst e
            rintro (h | h | ⟨gb, hgb, h⟩)
            · exact h c1
            · omega
            · have hm : gb.1 ∈ (rs[j].filter (okB rs.length)).map Prod.fst := by
                refine List.mem_map.mpr ⟨gb, List.mem_filter.mpr ⟨hgb, ?_⟩, rfl⟩
                unfold okB
                by_cases h0 : 0 ≤ gb.1
                · have h1 : ¬ gb.1 < (rs.length : Int) := fun q => h ⟨h0, q⟩
                  rw [decide_eq_false h1, Bool.and_false]; rfl
                · rw [decide_eq_false h0]; rfl
              rw [c3] at hm
              exact nomatch hm
          · exact hj j hjl (by omega)
    · rintro σ H1 ⟨v3, v4, v5, rfl, s1, hj⟩
      have hj : ∀ (j : Nat) (hj : j < rs.length), ¬ badRow z.length rs.length es.length j rs[j] := fun j h => hj j h (by omega)
      refine ⟨_, rfl, _, _, rfl, Or.inl ⟨_, s1.seq he1, rfl⟩, _, rfl, _, _, rfl, Or.inl ⟨_, s1.seq hr1, rfl⟩, _, _, rfl, rfl, _, rfl, ite2 (fun c1 => ?_) (fun c1 => ?_)⟩
      · have c1 : rs.length < es.length := by simp [lr] at c1; omega
        refine ⟨_, rfl, _, _, rfl, Or.inl ⟨_, s1.seq hr1, rfl⟩, ?_⟩
        rw [lr]
        exact ke rs.length (Or.inr ⟨rfl, hj, Or.inr c1⟩) H1 s1
      · have c1 : es.length ≤ rs.length := by simp [lr] at c1; omega
        exact kq ⟨hj, hpos, c1⟩ H1 s1
end
end Vf
set_option Elab.async false
set_option linter.all false
set_option maxRecDepth 100000
set_option maxHeartbeats 4000000
namespace Vf
open PySem L2 PyProof.Rows
theorem DpAll.set {K : PySem.W.Frag} {H : Hp} : ∀ {vs : List V} {ds : List PyData} (i : Nat) {v : V} {d : PyData}, DpAll K H vs ds → Dp K H v d → DpAll K H (vs.set i v) (ds.set i d)
  | _, _, _, _, _, .nil, _ => .nil
  | _, _, 0, _, _, .cons _ hr, g => .cons g hr
  | _, _, i + 1, _, _, .cons h hr, g => .cons h (DpAll.set i hr g)
theorem ixN_nat {n i : Nat} (h : i < n) : ixN n (i : Int) = some i := by
  unfold ixN
  rw [if_pos (by omega), if_pos (by omega)]; simp
theorem cutV_toN {xs : List V} {j : Nat} : cutV xs none (some (j : Int)) = xs.take j := by
  unfold cutV
  rw [HT.sIx_none, HT.sIx_nat, List.drop_zero, Nat.sub_zero]
  by_cases h : j ≤ xs.length
  · rw [Nat.min_eq_left h]
  · rw [Nat.min_eq_right (by omega), List.take_of_length_le (Nat.le_refl _), List.take_of_length_le (by omega)]
theorem cutV_fromN {xs : List V} {j : Nat} : cutV xs (some (j : Int)) none = xs.drop j := by
  unfold cutV
  rw [HT.sIx_none, HT.sIx_nat]
  by_cases h : j ≤ xs.length
  · rw [Nat.min_eq_left h]; exact List.take_of_length_le (by rw [List.length_drop]; exact Nat.le_refl _)
  · rw [Nat.min_eq_right (by omega), List.drop_of_length_le (Nat.le_refl _), List.drop_of_length_le (by omega), List.take_nil]
theorem DpAll.drop' {K : PySem.W.Frag} {H : Hp} {vs : List V} {ds : List PyData} (n : Nat) (h : DpAll K H vs ds) : DpAll K H (vs.drop n) (ds.drop n) := h.drop n
theorem cutV_ints (es : List Int) (lo hi : Option Int) : ∃ es' : List Int, cutV (es.map V.int) lo hi = es'.map V.int ∧ es'.length ≤ es.length := by
  refine ⟨(es.drop (HT.sIx (es.map V.int).length 0 lo)).take (HT.sIx (es.map V.int).length (es.map V.int).length hi - HT.sIx (es.map V.int).length 0 lo), ?_, ?_⟩
  · unfold cutV
    rw [List.map_take, List.map_drop]
  · rw [List.length_take, List.length_drop]; omega
structure TxtN (K : PySem.W.Frag) (mg : Str → Option Value) (fD fP : Addr) : Prop extends TxtP K mg fD fP
section
variable {P : Program} {w : World} {K : PySem.W.Frag} {mg : Str → Option Value} {base : Heap}
def spBent (K : PySem.W.Frag) : Sp := fun vs H Q _ => ∃ (p c : Addr) (R Ev : V) (rs : List Row) (es : List Int) (n m : Nat), vs = [.ref p, R, Ev] ∧ Pen H p c n ∧ n ≤ 2 ^ 29 ∧ Dp K H R (rowsD rs) ∧ Dp K H Ev (intsD es) ∧ 0 < rs.length ∧ rs.length ≤ 50 ∧ es.length ≤ m ∧ (∀ r ∈ rs, r.length ≤ m) ∧ m ≤ 50 ∧
  ∀ (t : Addr) (R' E' : V) (rs' : List Row) (es' : List Int) (H' : Hp), H' t = some (.tup [R', E']) → Dp K H' R' (rowsD rs') → Dp K H' E' (intsD es') → rs'.length = rs.length → es'.length ≤ m + 1 → (∀ r ∈ rs', r.length ≤ m + 1) → Pen H' p c (n + 4) → Kp p H H' → Q (.ref t) H'
abbrev s__law_bent : Stmt := top 26
abbrev N__law_bent : List Str := ["_law_pen_here", "_law_rows", "_law_ends", "_law_sort", "_law_at", "_law_place", "_law_odd", "_law_row"]
abbrev P__law_bent : List Str := ["_law_pen_here", "_law_rows", "_law_ends"]
theorem sc__law_bent : FnScope N__law_bent P__law_bent (defScope s__law_bent) := ⟨rfl, rfl, rfl, by decide +kernel, rfl, by decide +kernel, by decide +kernel⟩

theorem ok_bent {f fD fP : Addr} {fd fdD fdP : FuncData} (F : Fun K "_law_bent" "_law_bent" s__law_bent f fd) (T : TxtP K mg fD fP) (FD : Fun K "_law_draw" "_law_draw" s__law_draw fD fdD) (b_law_draw : Binds K fdD P__law_draw [])
    (FP : Fun K "_law_pick" "_law_pick" s__law_pick fP fdP) (b_law_pick : Binds K fdP P__law_pick []) : FnOk P w K mg base CX0 3 f fd P__law_bent (spBent K) := by
  have G_law_draw : FnOk P w K mg base CX0 1 fD fdD P__law_draw spDraw := ok_draw FD T.toTxtA
  have G_law_pick : FnOk P w K mg base CX0 2 fP fdP P__law_pick (spPickL K) := ok_pickL FP T.toTxtD FD b_law_draw
  refine F.ok sc__law_bent (fun vs H Q E h => ?_) (fun cdv A outer s H vs Q E hr h => ?_)
  · obtain ⟨p, c, R, Ev, rs, es, n, m, rfl, _⟩ := h
    rfl
  · obtain ⟨p, c, R, Ev, rs, es, n, m, rfl, hp, hn, hR, hE, hpos, hl, hel, hrl, hm, k⟩ := h
    refine ⟨_, (pss_cons (ps_par3 (i := 1) (j := 2) (l := 3) rfl sc__law_bent.nd rfl rfl rfl (by decide) (by decide) (by decide) rfl rfl rfl (pa_cons (pe_lc (own := [("_law_row", 7)]) (g := gName 7) (by rfl) sc__law_bent.nd (pi_list (pv 1)) (blkOk_by (own := [("_law_row", 7)]) (N := N__law_bent) (sc := defScope s__law_bent) (by decide +kernel)) (fun _ _ _ _ _ => pg_name (i := 7) sc__law_bent.nd rfl (Or.inl rfl)) (fun _ _ _ _ _ => pts_nil) (fun _ _ _ _ _ => (pe_callTy (call_listK (K := K) rfl) (by rfl) T.list boot_list (pa_cons (pv 7) pa_nil)))) (pa_cons (pe_callTy call_list_of (by rfl) T.list boot_list (pa_cons (pv 2) pa_nil)) (pa_cons (pe_call G_law_draw (hr.mono (by decide)) (by rfl) T.m_law_draw T.k_law_draw b_law_draw .nil pass0 (pa_cons (pv 0) (pa_cons pe_int pa_nil))) pa_nil))) (by rfl))
      (pss_cons (ps_set (i := 4) sc__law_bent.nd rfl (Or.inl rfl) (pe_call G_law_draw (hr.mono (by decide)) (by rfl) T.m_law_draw T.k_law_draw b_law_draw .nil pass0 (pa_cons (pv 0) (pa_cons (pe_callB call_len (by rfl) T.len PySem.boot_len (pa_cons (pv 1) pa_nil)) pa_nil))))
      (pss_cons (ps_set (i := 5) sc__law_bent.nd rfl (Or.inl rfl) (pe_call G_law_draw (hr.mono (by decide)) (by rfl) T.m_law_draw T.k_law_draw b_law_draw .nil pass0 (pa_cons (pv 0) (pa_cons (pe_op op_add (pe_callB call_len (by rfl) T.len PySem.boot_len (pa_cons (pe_ix ix_list (pv 1) (pv 4) (fun _ _ => rfl)) pa_nil)) pe_int) pa_nil))))
      (pss_cons (ps_if (pt_cmpR op_eq (pv 3) pe_int (nomark _)) (pss_one (ps_asg (pe_op op_cat (pe_slice sl_list (pe_ix ix_list (pv 1) (pv 4) (fun _ _ => rfl)) po_none (po_some (pv 5))) (pe_slice sl_list (pe_ix ix_list (pv 1) (pv 4) (fun _ _ => rfl)) (po_some (pe_op op_add (pv 5) pe_int)) po_none)) (pg_sub (pv 1) (pv 4) set_list))) (pss_one (ps_if (pt_cmpR op_eq (pv 3) pe_int (nomark _)) (pss_one (ps_asg (pe_op op_cat (pe_op op_cat (pe_slice sl_list (pe_ix ix_list (pv 1) (pv 4) (fun _ _ => rfl)) po_none (po_some (pv 5))) (pe_lst (pa_cons (pe_tup (pa_cons pe_int (pa_cons pe_int pa_nil))) pa_nil))) (pe_slice sl_list (pe_ix ix_list (pv 1) (pv 4) (fun _ _ => rfl)) (po_some (pv 5)) po_none)) (pg_sub (pv 1) (pv 4) set_list))) (pss_one (ps_if (pt_cmpR op_eq (pv 3) pe_int (nomark _)) (pss_cons (ps_set (i := 6) sc__law_bent.nd rfl (Or.inl rfl) (pe_call G_law_pick (hr.mono (by decide)) (by rfl) T.m_law_pick T.k_law_pick b_law_pick .nil pass0 (pa_cons (pv 0) (pa_cons (pe_lst (pa_cons (pe_un un_neg pe_int) (pa_cons (pe_callB call_len (by rfl) T.len PySem.boot_len (pa_cons (pv 1) pa_nil)) (pa_cons (pe_op op_pow pe_int pe_int) (pa_cons pe_int pa_nil))))) pa_nil))))
      (pss_one (ps_asg (pe_op op_cat (pe_op op_cat (pe_slice sl_list (pe_ix ix_list (pv 1) (pv 4) (fun _ _ => rfl)) po_none (po_some (pv 5))) (pe_lst (pa_cons (pe_tup (pa_cons (pv 6) (pa_cons pe_int pa_nil))) pa_nil))) (pe_slice sl_list (pe_ix ix_list (pv 1) (pv 4) (fun _ _ => rfl)) (po_some (pe_op op_add (pv 5) pe_int)) po_none)) (pg_sub (pv 1) (pv 4) set_list)))) (pss_one (ps_if (pt_cmpR op_eq (pv 3) pe_int (nomark _)) (pss_one (ps_set (i := 2) sc__law_bent.nd rfl (Or.inl rfl) (pe_slice sl_list (pv 2) po_none (po_some (pe_un un_neg pe_int))))) (pss_one (ps_if (pt_cmpR op_eq (pv 3) pe_int (nomark _)) (pss_one (ps_set (i := 2) sc__law_bent.nd rfl (Or.inl rfl) (pe_op op_cat (pv 2) (pe_lst (pa_cons pe_int pa_nil))))) (pss_one (ps_set (i := 2) sc__law_bent.nd rfl (Or.inl rfl) (pe_op op_cat (pe_op op_cat (pe_slice sl_list (pv 2) po_none (po_some (pv 4))) (pe_lst (pa_cons pe_int pa_nil))) (pe_slice sl_list (pv 2) (po_some (pe_op op_add (pv 4) pe_int)) po_none)))))))))))))
      (pss_one (ps_ret (pe_tup (pa_cons (pv 1) (pa_cons (pv 2) pa_nil))))))))), ?_⟩
    obtain ⟨r, xs, rfl, hr1, hr2⟩ := hR.listE
    obtain ⟨e, ys, rfl, he1, he2⟩ := hE.listE
    obtain rfl := dpAll_intsE he2
    have lr : xs.length = rs.length := by rw [hr2.length, List.length_map]
    refine ⟨_, rfl, r, rfl, ⟨_, hr1⟩, fun D hD => lc_list (K := K) (a := r) (xs := xs) (fun i H1 => ∃ vs : List V, H1 D = some (.lst vs) ∧ DpAll K (L2.del H1 D) vs ((rs.take i).map rowD) ∧ Same H H1)
      ⟨[], upd_same, .nil, same_new hD⟩ (fun i H1 _ ⟨_, _, _, s1⟩ => s1.seq hr1) ?_ ?_⟩
    · rintro i x H1 hx ⟨vs, hD1, hd1, s1⟩
      obtain ⟨hi, _⟩ := List.getElem?_eq_some_iff.mp hx
      have hi' : i < rs.length := by omega
      obtain ⟨v, hv, hrow⟩ := hr2.get (i := i) (d := rowD rs[i]) (by rw [List.getElem?_map, List.getElem?_eq_getElem hi']; rfl)
      obtain rfl : x = v := Option.some.inj (hx.symm.trans hv)
      obtain ⟨w5, ts, rfl, hw1, hw2⟩ := hrow.listE
      refine ⟨rfl, ?_⟩
      refine lcYes ?_
      refine ⟨_, rfl, w5, ts, rfl, Or.inl (s1.seq hw1), fun q hq => ⟨vs, by rw [upd_ne (ne_of_none hD1 hq)]; exact hD1, ?_, vs ++ [.ref q], upd_same, ?_, (s1.trans (same_new hq)).put hD⟩⟩
      · rw [hd1.length, List.length_map, List.length_take]; exact small1000 (by omega)
      · have nqD : q ≠ D := (ne_of_none hD1 hq).symm
        have e0 : Kl (L2.del H1 D) (L2.del (L2.upd (L2.upd H1 q (.lst ts)) D (.lst (vs ++ [.ref q]))) D) := fun b o e _ => by
          obtain ⟨h1, h2⟩ := del_some e
          rw [del_ne h1, upd_ne h1, upd_ne (ne_of_none h2 hq)]
          exact h2
        have e1 : Kl H (L2.del (L2.upd (L2.upd H1 q (.lst ts)) D (.lst (vs ++ [.ref q]))) D) := fun b o e _ => by
          have hb : b ≠ D := ne_of_none e hD
          rw [del_ne hb, upd_ne hb, upd_ne (ne_of_none (s1 _ _ e) hq)]
          exact s1 _ _ e
        rw [take_more hi', List.map_append]
        refine (hd1.mv e0).snoc (.lst (xs := ts) (SqL.of ?_) (hw2.mv e1))
        rw [del_ne nqD, upd_ne nqD, upd_same]
    rintro H1 ⟨vs, hD1, hd1, s1⟩
    rw [lr, List.take_of_length_le (Nat.le_refl _)] at hd1
    have lv : vs.length = rs.length := by rw [hd1.length, List.length_map]
    refine ⟨_, rfl, e, _, rfl, Or.inl (s1.seq he1), fun E0 hE0 => ?_⟩
    have hp2 := hp.same (s1.trans (same_new (o := .lst (es.map V.int)) hE0))
    have nED : E0 ≠ D := (ne_of_none hD1 hE0).symm
    have hD2 : (L2.upd H1 E0 (.lst (es.map V.int))) D = some (.lst vs) := by rw [upd_ne nED.symm]; exact hD1
    have hE2 : (L2.upd H1 E0 (.lst (es.map V.int))) E0 = some (.lst (es.map V.int)) := upd_same
    have hd2 : DpAll K (L2.del (L2.upd H1 E0 (.lst (es.map V.int))) D) vs (rs.map rowD) := hd1.mv (Kl.del (Kl.same (same_new hE0)) D)
    have s2 : Same H (L2.upd H1 E0 (.lst (es.map V.int))) := s1.trans (same_new hE0)
    generalize L2.upd H1 E0 (.lst (es.map V.int)) = H2 at *
    clear hD1 hd1 s1 hE0
    refine ⟨_, rfl, p, c, 6, n, rfl, hp2, by omega, by decide, by decide, fun g H3 g0 g1 hp3 k3 => ⟨_, _, _, rfl, ?_⟩⟩
    obtain ⟨nDp, nDc⟩ := hp.new hD
    obtain ⟨kv2, hk2⟩ := id hp2.dk
    have nEp : E0 ≠ p := ne_of hE2 hk2 (by intro z; cases z)
    refine ⟨_, rfl, _, rfl, _, _, rfl, Or.inl ⟨_, SqL.of (k3 _ _ hD2 nDp), rfl⟩, p, c, _, _, rfl, hp3, by omega, by omega, by omega, fun g2 H4 g20 g21 hp4 k4 => ?_⟩
    obtain ⟨an, rfl⟩ : ∃ an : Nat, g2 = an := ⟨g2.toNat, by omega⟩
    have han : an < vs.length := by omega
    have han' : an < rs.length := by omega
    have k24 := k3.trans k4
    have hD4 := k24 _ _ hD2 nDp
    have hd4 := hd2.mv ((Kl.kp k24 hk2).del D)
    obtain ⟨v, hv, hrow⟩ := hd4.get (i := an) (d := rowD rs[an]) (by rw [List.getElem?_map, List.getElem?_eq_getElem han']; rfl)
    obtain ⟨w5, ts, rfl, hw1, hw2⟩ := hrow.listE
    have lt : ts.length = rs[an].length := by rw [hw2.length, List.length_map]
    have hri := hrl _ (List.getElem_mem han')
    have hws4 : SqL K H4 w5 ts := (Kl.undel _ _).seq hw1
    refine ⟨_, rfl, _, rfl, _, rfl, D, vs, _, _, rfl, rfl, SqL.of hD4, atI_nat hv, _, _, rfl, Or.inl ⟨_, hws4, rfl⟩, _, _, rfl, rfl, p, c, _, _, rfl, hp4, by omega, by omega, by omega, fun pl H5 pl0 pl1 hp5 k5 => ?_⟩
    obtain ⟨pn, rfl⟩ : ∃ pn : Nat, pl = pn := ⟨pl.toNat, by omega⟩
    have k25 := k24.trans k5
    obtain ⟨kv4, hk4⟩ := id hp4.dk
    have hD5 := k25 _ _ hD2 nDp
    have hE5 := k25 _ _ hE2 nEp
    have hd5 := hd2.mv ((Kl.kp k25 hk2).del D)
    have hw5 : SqL K H5 w5 ts := kp_seq k5 hk4 hws4
    have ht5 : DpAll K (L2.del H5 D) ts (rs[an].map tupD) := hw2.mv ((Kl.kp k5 hk4).del D)
    have kH5 : Kp p H H5 := (Kp.of s2).trans k25
    have hp5 := hp5.mono (show n + 1 + 1 + 1 ≤ n + 3 by omega)
    obtain ⟨kv5, hk5⟩ := id hp5.dk
    clear hD4 hd4 hrow hw1 hw2 hws4 hk4 k24 k25 k3 k4 k5 hd2 hD2 hE2 hk2 hp2 hp3 hp4 hR hE hr1 hr2 he1 he2
    have at5 : ∀ H', Kp p H5 H' → SqL K H' D vs ∧ SqL K H' w5 ts := fun H' kk => ⟨SqL.of (kk _ _ hD5 nDp), kp_seq kk hk5 hw5⟩
    have finR : ∀ (H7 : Hp) (A3 : Addr) (us : List V) (r' : Row), Kp p H5 H7 → Pen H7 p c (n + 4) → H7 A3 = some (.lst us) → A3 ≠ D → DpAll K (L2.del H7 D) us (r'.map tupD) → r'.length ≤ m + 1 →
        ∀ t, (L2.upd H7 D (.lst (vs.set an (.ref A3)))) t = none → Q (.ref t) (L2.upd (L2.upd H7 D (.lst (vs.set an (.ref A3)))) t (.tup [.ref D, .ref E0])) := by
      intro H7 A3 us r' kk hpen hA3 nA3 hus hr' t ht
      have hd7 := hd5.mv ((Kl.kp kk hk5).del D)
      have hE7 := kk _ _ hE5 nEp
      have e0 : Kl (L2.del H7 D) (L2.upd (L2.upd H7 D (.lst (vs.set an (.ref A3)))) t (.tup [.ref D, .ref E0])) := fun b o e _ => by
        obtain ⟨h1, h2⟩ := del_some e
        have h3 : b ≠ t := fun q => by rw [q] at h2 h1; rw [upd_ne h1] at ht; rw [ht] at h2; cases h2
        rw [upd_ne h3, upd_ne h1]; exact h2
      have ntD : t ≠ D := fun q => by rw [q, upd_same] at ht; cases ht
      refine k t (.ref D) (.ref E0) (rs.set an r') es _ upd_same (.lst (xs := vs.set an (.ref A3)) (SqL.of (by rw [upd_ne ntD.symm, upd_same])) ?_) ((Dp.lst (K := K) (H := L2.del H7 D) (xs := es.map V.int) (SqL.of (by rw [del_ne nED]; exact hE7)) (dpAll_ints K _ es)).mv e0) (List.length_set ..) (by omega) ?_ ((hpen.put nDp nDc).same (same_new ht)) (((kH5.trans kk).put hD).trans (Kp.of (same_new ht)))
      · have := (DpAll.set an hd7 (Dp.lst (K := K) (H := L2.del H7 D) (xs := us) (SqL.of (by rw [del_ne nA3]; exact hA3)) hus)).mv e0
        have es1 : (rs.set an r').map rowD = (rs.map rowD).set an (rowD r') := List.map_set ..
        rw [es1]
        exact this
      · intro r1 hr1
        rcases List.mem_or_eq_of_mem_set hr1 with h | h
        · have := hrl r1 h; omega
        · rw [h]; exact hr'
    have finE : ∀ (H7 : Hp) (E1 : Addr) (es' : List Int), Kp p H5 H7 → Pen H7 p c (n + 4) → H7 E1 = some (.lst (es'.map V.int)) → es'.length ≤ m + 1 → ∀ t, H7 t = none → Q (.ref t) (L2.upd H7 t (.tup [.ref D, .ref E1])) := by
      intro H7 E1 es' kk hpen hE1 hl' t ht
      have hd7 := (hd5.mv (Kl.undel _ _)).mv ((Kl.kp kk hk5).trans (Kl.same (same_new (o := .tup [.ref D, .ref E1]) ht)))
      exact k t (.ref D) (.ref E1) rs es' _ upd_same (.lst (SqL.of (same_new ht _ _ (kk _ _ hD5 nDp))) hd7) (.lst (SqL.of (same_new ht _ _ hE1)) (dpAll_ints K _ es')) rfl hl' (fun r1 h => by have := hrl r1 h; omega) (hpen.same (same_new ht)) ((kH5.trans kk).trans (Kp.of (same_new ht)))
    refine ⟨_, rfl, rfl, _, rfl, ite2 (fun c0 => ?_) (fun c0 => ?_)⟩
    · -- one letter less
      refine ⟨_, rfl, _, rfl, D, vs, _, _, rfl, rfl, SqL.of hD5, atI_nat hv, _, rfl, _, rfl, w5, ts, rfl, hw5, fun A1 hA1 => ?_⟩
      rw [cutV_toN]
      obtain ⟨sD, sw⟩ := at5 _ (Kp.of (same_new (o := .lst (ts.take pn)) hA1))
      refine ⟨_, rfl, _, rfl, D, vs, _, _, rfl, rfl, sD, atI_nat hv, _, rfl, _, _, rfl, rfl, _, rfl, w5, ts, rfl, sw, fun A2 hA2 => ?_⟩
      rw [show (pn : Int) + 1 = ((pn + 1 : Nat) : Int) by omega, cutV_fromN]
      refine ⟨A1, A2, _, _, rfl, rfl, (same_new hA2) _ _ upd_same, upd_same, Nat.le_of_lt (small1000 (by rw [List.length_take, List.length_drop]; omega)), fun A3 hA3 => ?_⟩
      have s3 := ((same_new (o := .lst (ts.take pn)) hA1).trans (same_new (o := .lst (ts.drop (pn + 1))) hA2)).trans (same_new (o := .lst (ts.take pn ++ ts.drop (pn + 1))) hA3)
      have nA3 : A3 ≠ D := (ne_of_none ((same_new hA2) _ _ ((same_new hA1) _ _ hD5)) hA3).symm
      refine ⟨_, rfl, _, rfl, D, vs, _, _, rfl, rfl, s3 _ _ hD5, ixN_nat han, _, rfl, _, rfl, by show 2 ≤ sizeLine; decide, finR _ A3 _ (rs[an].take pn ++ rs[an].drop (pn + 1)) (Kp.of s3) ((hp5.same s3).mono (by omega)) upd_same nA3 ?_ (by rw [List.length_append, List.length_take, List.length_drop]; omega)⟩
      rw [List.map_append, List.map_take, List.map_drop]
      have := ht5.mv (Kl.del (Kl.same s3) D)
      exact (this.take pn).append (this.drop (pn + 1))
    refine ⟨_, rfl, rfl, _, rfl, ite2 (fun c1 => ?_) (fun c1 => ?_)⟩
    · -- one letter more
      refine ⟨_, rfl, _, rfl, D, vs, _, _, rfl, rfl, SqL.of hD5, atI_nat hv, _, rfl, _, rfl, w5, ts, rfl, hw5, fun A1 hA1 => ?_⟩
      rw [cutV_toN]
      refine ⟨by show 2 ≤ sizeLine; decide, fun q hq => ⟨by show 1 ≤ sizeLine; decide, fun A2 hA2 => ?_⟩⟩
      have x1 := (same_new (o := .lst (ts.take pn)) hA1)
      have x2 := x1.trans (same_new (o := .tup [.int 0, .int 1]) hq)
      have x3 := x2.trans (same_new (o := .lst [.ref q]) hA2)
      refine ⟨A1, A2, _, _, rfl, rfl, (same_new hA2) _ _ ((same_new hq) _ _ upd_same), upd_same, Nat.le_of_lt (small1000 (by rw [List.length_take]; show min pn ts.length + 1 ≤ 1000; omega)), fun A3 hA3 => ?_⟩
      have x4 := x3.trans (same_new (o := .lst (ts.take pn ++ [.ref q])) hA3)
      obtain ⟨sD, sw⟩ := at5 _ (Kp.of x4)
      refine ⟨_, rfl, _, rfl, D, vs, _, _, rfl, rfl, sD, atI_nat hv, _, rfl, _, rfl, w5, ts, rfl, sw, fun A4 hA4 => ?_⟩
      rw [cutV_fromN]
      refine ⟨A3, A4, _, _, rfl, rfl, (same_new hA4) _ _ upd_same, upd_same, Nat.le_of_lt (small1000 (by rw [List.length_append, List.length_take, List.length_drop]; show min pn ts.length + 1 + (ts.length - pn) ≤ 1000; omega)), fun A5 hA5 => ?_⟩
      have x5 := x4.trans (same_new (o := .lst (ts.drop pn)) hA4)
      have x6 := x5.trans (same_new (o := .lst (ts.take pn ++ [.ref q] ++ ts.drop pn)) hA5)
      have nA5 : A5 ≠ D := (ne_of_none (x5 _ _ hD5) hA5).symm
      have nqD : q ≠ D := (ne_of_none (x1 _ _ hD5) hq).symm
      refine ⟨_, rfl, _, rfl, D, vs, _, _, rfl, rfl, x6 _ _ hD5, ixN_nat han, _, rfl, _, rfl, by show 2 ≤ sizeLine; decide, finR _ A5 _ (rs[an].take pn ++ [(0, 1)] ++ rs[an].drop pn) (Kp.of x6) ((hp5.same x6).mono (by omega)) upd_same nA5 ?_ (by rw [List.length_append, List.length_append, List.length_take, List.length_drop]; show min pn rs[an].length + 1 + (rs[an].length - pn) ≤ m + 1; omega)⟩
      rw [List.map_append, List.map_append, List.map_take, List.map_drop]
      have := ht5.mv (Kl.del (Kl.same x6) D)
      refine ((this.take pn).append (.cons (.tup (SqT.of ?_) (.cons (.int _) (.cons (.int _) .nil))) .nil)).append (this.drop pn)
      rw [del_ne nqD]
      exact (same_new hA5) _ _ ((same_new hA4) _ _ ((same_new hA3) _ _ ((same_new hA2) _ _ upd_same)))
    refine ⟨_, rfl, rfl, _, rfl, ite2 (fun c2 => ?_) (fun c2 => ?_)⟩
    · -- a letter that leads elsewhere
      refine ⟨_, rfl, _, rfl, _, rfl, _, _, rfl, Or.inl ⟨_, SqL.of hD5, rfl⟩, _, _, rfl, rfl, ⟨by decide, by decide, by decide⟩, by show 4 ≤ sizeLine; decide, fun q hq => ⟨p, c, q, _, _, rfl, hp5.same (same_new hq), by omega, SqL.of upd_same, (by show 0 < 4; decide), (by show 4 ≤ 1000; decide), fun jj v H6 hv6 hp6 k6 => ?_⟩⟩
      have kk6 : Kp p H5 H6 := (Kp.of (same_new hq)).trans k6
      obtain ⟨gv, rfl⟩ : ∃ gv : Int, v = .int gv := by
        have hm := List.mem_of_getElem? hv6
        simp only [List.mem_cons, List.not_mem_nil, or_false] at hm
        rcases hm with e | e | e | e <;> exact ⟨_, e⟩
      obtain ⟨sD0, sw0⟩ := at5 _ kk6
      have hD6 := kk6 _ _ hD5 nDp
      refine ⟨_, rfl, _, rfl, D, vs, _, _, rfl, rfl, sD0, atI_nat hv, _, rfl, _, rfl, w5, ts, rfl, sw0, fun A1 hA1 => ?_⟩
      rw [cutV_toN]
      refine ⟨_, rfl, by show 2 ≤ sizeLine; decide, fun q hq => ⟨by show 1 ≤ sizeLine; decide, fun A2 hA2 => ?_⟩⟩
      have x1 := (same_new (o := .lst (ts.take pn)) hA1)
      have x2 := x1.trans (same_new (o := .tup [.int gv, .int 2]) hq)
      have x3 := x2.trans (same_new (o := .lst [.ref q]) hA2)
      refine ⟨A1, A2, _, _, rfl, rfl, (same_new hA2) _ _ ((same_new hq) _ _ upd_same), upd_same, Nat.le_of_lt (small1000 (by rw [List.length_take]; show min pn ts.length + 1 ≤ 1000; omega)), fun A3 hA3 => ?_⟩
      have x4 := x3.trans (same_new (o := .lst (ts.take pn ++ [.ref q])) hA3)
      obtain ⟨sD, sw⟩ := at5 _ (kk6.trans (Kp.of x4))
      refine ⟨_, rfl, _, rfl, D, vs, _, _, rfl, rfl, sD, atI_nat hv, _, rfl, _, _, rfl, rfl, _, rfl, w5, ts, rfl, sw, fun A4 hA4 => ?_⟩
      rw [show (pn : Int) + 1 = ((pn + 1 : Nat) : Int) by omega, cutV_fromN]
      refine ⟨A3, A4, _, _, rfl, rfl, (same_new hA4) _ _ upd_same, upd_same, Nat.le_of_lt (small1000 (by rw [List.length_append, List.length_take, List.length_drop]; show min pn ts.length + 1 + (ts.length - (pn + 1)) ≤ 1000; omega)), fun A5 hA5 => ?_⟩
      have x5 := x4.trans (same_new (o := .lst (ts.drop (pn + 1))) hA4)
      have x6 := x5.trans (same_new (o := .lst (ts.take pn ++ [.ref q] ++ ts.drop (pn + 1))) hA5)
      have nA5 : A5 ≠ D := (ne_of_none (x5 _ _ hD6) hA5).symm
      have nqD : q ≠ D := (ne_of_none (x1 _ _ hD6) hq).symm
      refine ⟨_, rfl, _, rfl, D, vs, _, _, rfl, rfl, x6 _ _ hD6, ixN_nat han, _, rfl, _, rfl, by show 2 ≤ sizeLine; decide, finR _ A5 _ (rs[an].take pn ++ [(gv, 2)] ++ rs[an].drop (pn + 1)) (kk6.trans (Kp.of x6)) ((hp6.same x6).mono (by omega)) upd_same nA5 ?_ (by rw [List.length_append, List.length_append, List.length_take, List.length_drop]; show min pn rs[an].length + 1 + (rs[an].length - (pn + 1)) ≤ m + 1; omega)⟩
      rw [List.map_append, List.map_append, List.map_take, List.map_drop]
      have := ht5.mv (Kl.del ((Kl.kp kk6 hk5).trans (Kl.same x6)) D)
      refine ((this.take pn).append (.cons (.tup (SqT.of ?_) (.cons (.int _) (.cons (.int _) .nil))) .nil)).append (this.drop (pn + 1))
      rw [del_ne nqD]
      exact (same_new hA5) _ _ ((same_new hA4) _ _ ((same_new hA3) _ _ ((same_new hA2) _ _ upd_same)))
    refine ⟨_, rfl, rfl, _, rfl, ite2 (fun c3 => ?_) (fun c3 => ?_)⟩
    · -- an end less
      refine ⟨_, rfl, _, rfl, _, rfl, E0, _, rfl, SqL.of hE5, fun A1 hA1 => ?_⟩
      obtain ⟨es', e1, e2⟩ := cutV_ints es none (some (-1))
      rw [e1]
      exact ⟨_, rfl, _, rfl, by show 2 ≤ sizeLine; decide, finE _ A1 es' (Kp.of (same_new hA1)) ((hp5.same (same_new hA1)).mono (by omega)) upd_same (by omega)⟩
    refine ⟨_, rfl, rfl, _, rfl, ite2 (fun c4 => ?_) (fun c4 => ?_)⟩
    · -- an end more
      refine ⟨_, rfl, by show 1 ≤ sizeLine; decide, fun A1 hA1 => ⟨E0, A1, _, _, rfl, rfl, (same_new hA1) _ _ hE5, upd_same, Nat.le_of_lt (small1000 (by rw [List.length_map]; show es.length + 1 ≤ 1000; omega)), fun A2 hA2 => ?_⟩⟩
      have x2 := (same_new (o := .lst [.int 5]) hA1).trans (same_new (o := .lst (es.map V.int ++ [.int 5])) hA2)
      exact ⟨_, rfl, _, rfl, by show 2 ≤ sizeLine; decide, finE _ A2 (es ++ [5]) (Kp.of x2) ((hp5.same x2).mono (by omega)) (by rw [upd_same, List.map_append]; rfl) (by rw [List.length_append]; show es.length + 1 ≤ m + 1; omega)⟩
    -- an end replaced
    refine ⟨_, rfl, _, rfl, _, rfl, E0, _, rfl, SqL.of hE5, fun A1 hA1 => ?_⟩
    rw [cutV_toN]
    refine ⟨by show 1 ≤ sizeLine; decide, fun A2 hA2 => ⟨A1, A2, _, _, rfl, rfl, (same_new hA2) _ _ upd_same, upd_same, Nat.le_of_lt (small1000 (by rw [List.length_take, List.length_map]; show min an es.length + 1 ≤ 1000; omega)), fun A3 hA3 => ?_⟩⟩
    have x3 := ((same_new (o := .lst ((es.map V.int).take an)) hA1).trans (same_new (o := .lst [.int 101]) hA2)).trans (same_new (o := .lst ((es.map V.int).take an ++ [.int 101])) hA3)
    refine ⟨_, rfl, _, rfl, _, _, rfl, rfl, _, rfl, E0, _, rfl, SqL.of (x3 _ _ hE5), fun A4 hA4 => ?_⟩
    rw [show (an : Int) + 1 = ((an + 1 : Nat) : Int) by omega, cutV_fromN]
    refine ⟨A3, A4, _, _, rfl, rfl, (same_new hA4) _ _ upd_same, upd_same, Nat.le_of_lt (small1000 (by rw [List.length_append, List.length_take, List.length_drop, List.length_map]; show min an es.length + 1 + (es.length - (an + 1)) ≤ 1000; omega)), fun A5 hA5 => ?_⟩
    have x5 := (x3.trans (same_new (o := .lst ((es.map V.int).drop (an + 1))) hA4)).trans (same_new (o := .lst ((es.map V.int).take an ++ [.int 101] ++ (es.map V.int).drop (an + 1))) hA5)
    exact ⟨_, rfl, _, rfl, by show 2 ≤ sizeLine; decide, finE _ A5 (es.take an ++ [101] ++ es.drop (an + 1)) (Kp.of x5) ((hp5.same x5).mono (by omega)) (by rw [upd_same, List.map_append, List.map_append, List.map_take, List.map_drop]; rfl) (by rw [List.length_append, List.length_append, List.length_take, List.length_drop]; show min an es.length + 1 + (es.length - (an + 1)) ≤ m + 1; omega)⟩
end
end Vf
set_option Elab.async false
set_option linter.all false
set_option maxRecDepth 100000
set_option maxHeartbeats 4000000
/-! C(..) in a try: what is raised is wished for at the caller's slots -/
namespace L2
open PySem PySem.Spec PyProof.Rows
section
variable {X : Cx} {CX : CXT} {k : Nat} {f C : Addr} {fd : FuncData} {ps : List Str} {sp : Sp} {dvs : List V} {ds : List Value} {E : St → XK} {x : Str} {p pos : Pos} {e : Expr} {es : List Expr} {t : TA}
theorem run_makeV {pins : List (Addr × Obj)} {σ : St} {H : Hp} {s : Shared} {Q : VK} {us : List Value} {vs : List V} (M : Mk X.K C f) (F : FnOk X.prog X.w X.K X.mg X.base CX k f fd ps sp) (hr : Room (k + 1) X.A) (hb : Binds X.K fd ps ds) (hd : Vals dvs ds)
    (hx : PassesAt CX X σ (E σ)) (I : Inv X pins σ H s) (r : Vals vs us)
    (h : ∀ x dx, H x = none → H dx = none → dx ≠ x → sp (.ref x :: (vs ++ dvs)) (upd (upd H dx (.own x)) x (.ins C dx [])) (fun v H2 => v = .non ∧ Q (.ref x) H2) (E σ)) :
    wpAny (model X.prog X.w) X.A (call (.ref C) us) (EP X pins σ Q) X.xe s := by
  have hq := h (s.heap.objs.size + 1) s.heap.objs.size (I.hok.fresh (Nat.le_succ _)) (I.hok.fresh (Nat.le_refl _)) (Nat.ne_of_lt (Nat.lt_succ_self _))
  have I2 := Inv.made (C := C) I
  have r2 : Vals (V.ref (s.heap.objs.size + 1) :: (vs ++ dvs)) (Value.ref (s.heap.objs.size + 1) :: (us ++ ds)) := .cons rfl (r.append hd)
  have hl : (Value.ref (s.heap.objs.size + 1) :: us ++ ds).length = ps.length := by
    have e := r2.length
    rw [F.len _ _ _ _ hq] at e
    exact e.symm
  refine wpAny_call (make_map (f := f) I.kIn M.makes M.init (beq_iff_eq.mp M.fn) (codeAny_mono (F.run _ X.stack _ _ ⟨Value.ref (s.heap.objs.size + 1) :: us, []⟩ (Value.ref (s.heap.objs.size + 1) :: (us ++ ds)) _ _ (E σ) (hr.make C us [])
    (I2.env0.make C us []) (hb _ (Value.ref (s.heap.objs.size + 1) :: us) I2.kIn hl) r2 hq) fun r s' hq' => ?_))
  cases r with
  | error e => exact hx pins _ _ e s' I2 hq'
  | ok fl =>
    cases fl with
    | ret u =>
      obtain ⟨v, H', I3, rv, ev, q3⟩ := I2.after hq'
      subst ev
      exact ⟨rv, ⟨V.ref (s.heap.objs.size + 1), H', I3, rfl, q3⟩⟩
    | next => exact False.elim hq'
    | brk => exact False.elim hq'
    | cont => exact False.elim hq'
def tMakeV (C : Addr) (sp : Sp) (dvs : List V) (E : St → XK) (t : TA) : TE := fun σ H Q => t σ H fun vs H1 => ∀ x dx, H1 x = none → H1 dx = none → dx ≠ x →
  sp (.ref x :: (vs ++ dvs)) (upd (upd H1 dx (.own x)) x (.ins C dx [])) (fun v H2 => v = .non ∧ Q (.ref x) H2) (E σ)
theorem pe_makeV (M : Mk X.K C f) (F : FnOk X.prog X.w X.K X.mg X.base CX k f fd ps sp) (hr : Room (k + 1) X.A) (hg : Gl X x) (hm : X.mg x = some (.ref C)) (hb : Binds X.K fd ps ds) (hd : Vals dvs ds) (hx : ∀ σ, PassesAt CX X σ (E σ))
    (ha : PA X (e :: es) t) (hdb : (x == ("__debug__" : Str)) = false := by decide) (he : starEach (e :: es) X.env = (false, eval e X.env) :: starEach es X.env := by rfl) (hpl : (backTo pos (starEach es X.env)).any (·.1) = false := by rfl) :
    PE X (.Call (.Name x p) (e :: es) [] pos) (tMakeV C sp dvs E t) := by
  refine ⟨fun pins s σ H Q I h => ?_⟩
  refine wpAny_Call_Name_kw (ld_glob I hg hm ?_ hdb)
  refine PySem.W.callWith_K (h₀ := X.base) I.ok.mod.kin M.kp (thn (ha.run pos pins s σ H _ I h) fun us s1 ⟨vs, H1, I1, r, q⟩ => ⟨I1.kIn, ?_⟩) he hpl
  exact run_makeV M F hr hb hd (hx σ) I1 r q
end
end L2
set_option Elab.async false
set_option linter.all false
set_option maxRecDepth 100000
set_option maxHeartbeats 4000000
namespace Vf
open PySem L2 PyProof.Rows
section
variable {P : Program} {w : World} {K : PySem.W.Frag} {mg : Str → Option Value} {base : Heap}
def spRefused (K : PySem.W.Frag) : Sp := fun vs H Q _ => ∃ (z : Str) (R Ev : V) (rs : List Row) (es : List Int), vs = [.str z, R, Ev] ∧ Rws K H R rs ∧ Ens K H Ev es ∧ z.length ≤ 26 ∧ rs.length ≤ 100 ∧ es.length ≤ 100 ∧ (∀ r ∈ rs, r.length ≤ 100) ∧
  (AllOk z.length rs es → ∀ H', Same H H' → Q .non H') ∧ (∀ i : Nat, BadAt z.length rs es i → ∀ H', Same H H' → Q (.int i) H')
abbrev s__law_refused : Stmt := top 27
abbrev N__law_refused : List Str := ["_law_letters_here", "_law_rows", "_law_ends", "_law_made", "e"]
abbrev P__law_refused : List Str := ["_law_letters_here", "_law_rows", "_law_ends"]
theorem sc__law_refused : FnScope N__law_refused P__law_refused (defScope s__law_refused) := ⟨rfl, rfl, rfl, by decide +kernel, rfl, by decide +kernel, by decide +kernel⟩

theorem ok_refused {f fI fCS C B CB fB' fEq fLn : Addr} {fd fdI fdCS fdB fdLn : FuncData} (F : Fun K "_law_refused" "_law_refused" s__law_refused f fd) (T : TxtQ K mg C fCS B CB fB' fEq fLn) (MCode : Mk K C fI) (FI : Fun K "__init__" "Code.__init__" s_Code___init__ fI fdI) (bI : Binds K fdI P_Code___init__ [])
    (FCS : Fun K "check_states" "check_states" s_check_states fCS fdCS) (bcheck_states : Binds K fdCS P_check_states []) (FB' : Fun K "__init__" "BadCode.__init__" s_BadCode___init__ fB' fdB) (bB' : Binds K fdB P_BadCode___init__ [])
    (FLn : Fun K "__len__" "Code.__len__" s_Code___len__ fLn fdLn) (bLn : Binds K fdLn P_Code___len__ []) (te : PySem.W.exmOne K (.ref CB) (.ref CB) = some true) : FnOk P w K mg base CX0 6 f fd P__law_refused (spRefused K) := by
  have GI : FnOk P w K mg base (L2.CX P w) 4 fI fdI P_Code___init__ (spInit K C CB) := ok_init FI T.toTxtK FCS bcheck_states FB' bB'
  have GLn : FnOk P w K mg base CX0 1 fLn fdLn P_Code___len__ (spLn K C) := ok_ln FLn T
  refine F.ok sc__law_refused (fun vs H Q E h => ?_) (fun cdv A outer s H vs Q E hr h => ?_)
  · obtain ⟨z, R, Ev, rs, es, rfl, _⟩ := h
    rfl
  · obtain ⟨z, R, Ev, rs, es, rfl, hR, hE, hz, hl, hel, hrl, kq, ke⟩ := h
    refine ⟨_, pss_cons (ps_try_as (i := 4) (tb := fun W => tAsg (tMakeV C (spInit K C CB) [] (WE W) (tCons (tVar 0) (tCons (tVar 1) (tCons (tVar 2) tNil)))) (gName 3)) (ts := fun a cls d => tRet (tXf a cls d CB "state" (tVar 4))) (Wout := fun _ _ _ _ => False) rfl rfl sc__law_refused.nd rfl rfl ⟨rfl, by decide, Or.inl T.bc.g⟩ takes0
        (fun W pn xe tk _ => pss_one (ps_set (i := 3) sc__law_refused.nd rfl (Or.inl rfl) (by exact (pe_makeV MCode GI (hr.mono (by decide)) (by rfl) T.mgCode bI .nil (fun σ => passAt tk σ) (by exact (pa_cons (pv 0) (pa_cons (pv 1) (pa_cons (pv 2) pa_nil))))))))
        (fun a oe cls d pn hz hf => pss_one (ps_ret (by exact (pe_xf T.bc.xf T.bc.nf hz hf (pv 4))))))
      (pss_one (ps_ret (pe_ifExp (pt_cmpR op_eq (pe_callB (call_lenI T.lns T.lnf GLn (hr.mono (by decide)) bLn pass0) (by rfl) T.len PySem.boot_len (pa_cons (pv 3) pa_nil)) (pe_callB call_len (by rfl) T.len PySem.boot_len (pa_cons (pv 1) pa_nil)) (nomark _)) pe_non pe_str))), ?_⟩
    refine ⟨_, rfl, _, rfl, _, rfl, fun x dx hx hdx ne => ?_⟩
    have hx' : (L2.upd H dx (.own x)) x = none := by rw [upd_ne ne.symm]; exact hx
    have s0 : Same H (L2.upd (L2.upd H dx (.own x)) x (.ins C dx [])) := (same_new hdx).trans (same_new hx')
    refine ⟨x, dx, z, R, Ev, rs, es, rfl, upd_same, hR.mv (Kl.same s0), hE.mv (Kl.same s0), hz, hl, hel, hrl, fun hok H' hC hk => ⟨rfl, ?_⟩, fun i hb d H' hd => ?_⟩
    · have s1 : Same H H' := fun b u e => hk b u (s0 _ _ e) (ne_of_none e hx)
      obtain ⟨r, xs, rfl, hr1, lr, hrow⟩ := id hR.at
      obtain ⟨dx', Rv, Evv, ho, _, _⟩ := id hC
      refine ⟨_, rfl, x, dx', _, rfl, ho, x, z, rs, es, rfl, hC, fun H2 s2 => ⟨rs.length, rfl, Nat.le_of_lt (small1000 (by omega)), ?_⟩⟩
      have s3 := s1.trans s2
      refine ⟨_, rfl, _, _, rfl, (hr1.same s3).len, rfl, _, rfl, ?_⟩
      rw [lr, decide_eq_true (rfl : V.int (rs.length : Int) = V.int (rs.length : Int))]
      show (if true = true then _ else _)
      rw [if_pos rfl]
      exact kq hok H2 s3
    · obtain ⟨hd0, hd1, hd2⟩ := hd
      refine ⟨true, te, fun _ a0 _ => ?_, fun q => Bool.noConfusion q⟩
      refine ⟨_, rfl, rfl, rfl, d, _, V.int i, rfl, hd1, by simp [List.lookup], ?_⟩
      exact ke i hb H' (s0.trans hd2)
end
end Vf
set_option Elab.async false
set_option linter.all false
set_option maxRecDepth 100000
set_option maxHeartbeats 4000000
namespace Vf
open PySem L2 PyProof.Rows
/-- all that the law asks of the top -/
structure TxtX (K : PySem.W.Frag) (mg : Str → Option Value) (fD fP fB C fCS B CB fB' fEq fLn fPen fLe fCo fBe fWr fRe : Addr) : Prop extends TxtB K mg fD fP fB, TxtQ K mg C fCS B CB fB' fEq fLn where
  min : mg "min" = none
  m_law_pen : mg "_law_pen" = some (.ref fPen)
  k_law_pen : PySem.W.keepIn K (.ref fPen) = true
  m_law_letters : mg "_law_letters" = some (.ref fLe)
  k_law_letters : PySem.W.keepIn K (.ref fLe) = true
  m_law_code : mg "_law_code" = some (.ref fCo)
  k_law_code : PySem.W.keepIn K (.ref fCo) = true
  m_law_bent : mg "_law_bent" = some (.ref fBe)
  k_law_bent : PySem.W.keepIn K (.ref fBe) = true
  m_law_wrong : mg "_law_wrong" = some (.ref fWr)
  k_law_wrong : PySem.W.keepIn K (.ref fWr) = true
  m_law_refused : mg "_law_refused" = some (.ref fRe)
  k_law_refused : PySem.W.keepIn K (.ref fRe) = true
  te : PySem.W.exmOne K (.ref CB) (.ref CB) = some true
/-- all but plain lists stays -/
def KtT (H H' : Hp) : Prop := ∀ b u, H b = some u → (∀ xs, u ≠ .lst xs) → H' b = some u
theorem KtT.put {H H' : Hp} {a : Addr} {o : HO} {xs : List V} (k : KtT H H') (h : H a = some (.lst xs)) : KtT H (L2.upd H' a o) := fun b u e n => by
  rw [upd_ne (fun q => by rw [q, h] at e; exact n xs (Option.some.inj e).symm)]; exact k b u e n
theorem KtT.new {H H' : Hp} {a : Addr} {o : HO} (k : KtT H H') (h : H a = none) : KtT H (L2.upd H' a o) := fun b u e n => by
  rw [upd_ne (ne_of_none e h)]; exact k b u e n
theorem KtT.seqT {K : PySem.W.Frag} {H H' : Hp} {a : Addr} {xs : List V} (k : KtT H H') (h : SqT K H a xs) : SqT K H' a xs := by
  rcases h with (h | ⟨o, h⟩) | h
  · exact .inl (.inl (k _ _ h fun _ z => by cases z))
  · exact .inl (.inr ⟨o, k _ _ h fun _ z => by cases z⟩)
  · exact .inr h
theorem kt_row {K : PySem.W.Frag} {H H' : Hp} (k : KtT H H') : ∀ {ts : List V} {r : Row}, DpAll K H ts (r.map tupD) → DpAll K H' ts (r.map tupD)
  | [], [], _ => .nil
  | [], _ :: _, h => nomatch h
  | _ :: _, [], h => nomatch h
  | x :: ts, gb :: r, h => by
    cases h with
    | cons h hr =>
      refine .cons ?_ (kt_row k hr)
      obtain ⟨t, us, rfl, h1, h2⟩ := h.tupE
      cases h2 with
      | cons hA hB =>
        obtain rfl := hA.intE
        cases hB with
        | cons hB hC =>
          obtain rfl := hB.intE
          cases hC
          exact .tup (k.seqT h1) (.cons (.int _) (.cons (.int _) .nil))
theorem kt_rows {K : PySem.W.Frag} {H H' : Hp} (k : KtT H H') : ∀ {ts : List V} {rs : List Row}, DpAll K H ts (rs.map rowT) → DpAll K H' ts (rs.map rowT)
  | [], [], _ => .nil
  | [], _ :: _, h => nomatch h
  | _ :: _, [], h => nomatch h
  | x :: ts, r :: rs, h => by
    cases h with
    | cons h hr =>
      refine .cons ?_ (kt_rows k hr)
      obtain ⟨t, us, rfl, h1, h2⟩ := h.tupE
      exact .tup (k.seqT h1) (kt_row k h2)
theorem CodeAt.kt {K : PySem.W.Frag} {C o : Addr} {H H' : Hp} {z : Str} {rs : List Row} {es : List Int} (c : CodeAt K C H o z rs es) (k : KtT H H') : CodeAt K C H' o z rs es := by
  obtain ⟨dx, R, E, h1, h2, h3⟩ := c
  refine ⟨dx, R, E, k _ _ h1 (fun _ z => by cases z), ?_, ?_⟩
  · obtain ⟨t, us, rfl, h4, h5⟩ := h2.tupE
    exact .tup (k.seqT h4) (kt_rows k h5)
  · obtain ⟨t, us, rfl, h4, h5⟩ := h3.tupE
    obtain rfl := dpAll_intsE h5
    exact .tup (k.seqT h4) (dpAll_ints K _ _)
theorem CodeAt.same {K : PySem.W.Frag} {C o : Addr} {H H' : Hp} {z : Str} {rs : List Row} {es : List Int} (c : CodeAt K C H o z rs es) (s : Same H H') : CodeAt K C H' o z rs es := c.kt fun b u e _ => s b u e
theorem CodeAt.kp {K : PySem.W.Frag} {C o p : Addr} {H H' : Hp} {z : Str} {rs : List Row} {es : List Int} {kvs : List (Key × V)} (c : CodeAt K C H o z rs es) (k : Kp p H H') (hp : H p = some (.dK kvs)) : CodeAt K C H' o z rs es := by
  obtain ⟨dx, R, E, h1, h2, h3⟩ := c
  exact ⟨dx, R, E, k _ _ h1 (ne_of h1 hp (by intro z; cases z)), h2.mv (Kl.kp k hp), h3.mv (Kl.kp k hp)⟩
theorem Good.all {m : Nat} {rs : List Row} {es : List Int} (g : Good m rs es) : AllOk m rs es := by
  have hp := g.pos
  have hl := g.len
  refine ⟨fun j hj => ?_, by omega, by omega⟩
  obtain ⟨h1, h2⟩ := g.row rs[j] (List.getElem_mem hj)
  rintro (h | h | ⟨gb, hgb, h⟩)
  · exact h h1
  · omega
  · obtain ⟨g0, g1, _⟩ := h2 gb hgb
    exact h ⟨g0, g1⟩
theorem AllOk.not_bad {m : Nat} {rs : List Row} {es : List Int} (h : AllOk m rs es) (i : Nat) : ¬ BadAt m rs es i := by
  rintro (⟨hi, hb, _⟩ | ⟨_, _, hb⟩)
  · exact h.1 i hi hb
  · have := h.2; omega
theorem bad_first {m : Nat} {rs : List Row} {es : List Int} : ∀ n, n ≤ rs.length → (∀ (j : Nat) (hj : j < rs.length), j < n → ¬ badRow m rs.length es.length j rs[j]) ∨ ∃ i, BadAt m rs es i
  | 0, _ => Or.inl fun j _ h => absurd h (Nat.not_lt_zero _)
  | n + 1, hn => by
    rcases bad_first (m := m) (rs := rs) (es := es) n (by omega) with h | h
    · by_cases hb : badRow m rs.length es.length n rs[n]
      · exact Or.inr ⟨n, Or.inl ⟨by omega, hb, fun j hj => h j (by omega) hj⟩⟩
      · refine Or.inl fun j hj hjn => ?_
        by_cases e : j = n
        · subst e; exact hb
        · exact h j hj (by omega)
    · exact Or.inr h
theorem ok_or_bad (m : Nat) (rs : List Row) (es : List Int) : AllOk m rs es ∨ ∃ i, BadAt m rs es i := by
  rcases bad_first (m := m) (rs := rs) (es := es) rs.length (Nat.le_refl _) with h | h
  · have h : ∀ (j : Nat) (hj : j < rs.length), ¬ badRow m rs.length es.length j rs[j] := fun j hj => h j hj hj
    by_cases h2 : rs.length = 0 ∨ rs.length < es.length
    · exact Or.inr ⟨_, Or.inr ⟨rfl, h, h2⟩⟩
    · exact Or.inl ⟨h, by omega, by omega⟩
  · exact Or.inr h
def abc : List Nat := TL.tl (Str.ofString "abcdefghij")
theorem nodup_le : ∀ {l z : List Nat}, l.Nodup → (∀ x ∈ l, x ∈ z) → l.length ≤ z.length
  | [], _, _, _ => Nat.zero_le _
  | a :: l, z, hn, hs => by
    obtain ⟨h1, h2⟩ := List.nodup_cons.mp hn
    have ha : a ∈ z := hs a (List.mem_cons_self ..)
    have := nodup_le (l := l) (z := z.erase a) h2 fun x hx => (List.mem_erase_of_ne (fun e => h1 (by rw [← e]; exact hx))).mpr (hs x (List.mem_cons_of_mem _ hx))
    have h0 : 0 < z.length := List.length_pos_of_mem ha
    rw [List.length_erase_of_mem ha] at this
    show l.length + 1 ≤ z.length
    omega
theorem part_len (q : Nat → Bool) : ∀ l : List Nat, (l.filter q).length + (l.filter fun x => !q x).length = l.length
  | [] => rfl
  | a :: l => by
    have := part_len q l
    by_cases h : q a = true
    · rw [List.filter_cons_of_pos h, List.filter_cons_of_neg (by simp [h])]
      show (l.filter q).length + 1 + _ = l.length + 1
      omega
    · rw [List.filter_cons_of_neg h, List.filter_cons_of_pos (by simp [h])]
      show (l.filter q).length + ((l.filter fun x => !q x).length + 1) = l.length + 1
      omega
theorem abc_more {z : List Nat} : 10 ≤ (abc.filter (fun x => decide (x ∉ z))).length + z.length := by
  have h1 := part_len (fun x => decide (x ∉ z)) abc
  have h2 : (abc.filter fun x => !decide (x ∉ z)).length ≤ z.length := nodup_le ((by decide +kernel : abc.Nodup).filter _) fun x hx => by simpa using (List.mem_filter.mp hx).2
  have h3 : abc.length = 10 := by decide +kernel
  omega
theorem dpAll_of {K : PySem.W.Frag} {H : Hp} : ∀ {vs : List V} {ds : List PyData}, vs.length = ds.length → (∀ (j : Nat) (v : V) (d : PyData), vs[j]? = some v → ds[j]? = some d → Dp K H v d) → DpAll K H vs ds
  | [], [], _, _ => .nil
  | [], _ :: _, h, _ => nomatch h
  | _ :: _, [], h, _ => nomatch h
  | v :: vs, d :: ds, h, f => .cons (f 0 v d rfl rfl) (dpAll_of (Nat.succ.inj h) fun j v d h1 h2 => f (j + 1) v d h1 h2)
theorem BadAt.uniq {m : Nat} {rs : List Row} {es : List Int} {i j : Nat} (h1 : BadAt m rs es i) (h2 : BadAt m rs es j) : i = j := by
  rcases h1 with ⟨hi, b1, f1⟩ | ⟨e1, f1, _⟩ <;> rcases h2 with ⟨hj, b2, f2⟩ | ⟨e2, f2, _⟩
  · rcases Nat.lt_trichotomy i j with h | h | h
    · exact absurd b1 (f2 i h)
    · exact h
    · exact absurd b2 (f1 j h)
  · exact absurd b1 (f2 i hi)
  · exact absurd b2 (f1 j hj)
  · rw [e1, e2]
theorem eqv_pair (a c : List Row) (b d : List Int) : PyData.eqv (.tuple [rowsD a, intsD b]) (.tuple [rowsD c, intsD d]) = (decide (a = c) && decide (b = d)) := by
  rw [PyData.eqv, PyData.eqvAll, PyData.eqvAll, PyData.eqvAll, eqv_rowsD, eqv_intsD, Bool.and_true]
theorem shaped_pair (a : List Row) (b : List Int) : SeqAt.shaped (.tuple [rowsD a, intsD b]) = true := by
  refine shaped_of (n := 5) ?_ ?_ (by decide)
  · simp [PyData.canLay0, PyData.canLayAll0, lay_rowsD, lay_intsD]
  · have h1 := dep_rowsD a
    have h2 := dep_intsD b
    simp only [PyData.depth, PyData.depthAll]
    omega
def spLaw (K : PySem.W.Frag) : Sp := fun vs H Q _ => ∃ (a : Addr) (ns : List Int), vs = [.ref a] ∧ SqL K H a (ns.map V.int) ∧ ns.length ≤ 63 ∧ ∀ H', Q (.bl true) H'
section
variable {P : Program} {w : World} {K : PySem.W.Frag} {mg : Str → Option Value} {base : Heap}
abbrev s_law : Stmt := top 28
abbrev N_law : List Str := ["_law_script", "_law_pen_here", "_law_turn", "_law_letters_here", "_law_rows", "_law_ends", "_law_given", "_law_last", "_law_code_here", "_law_again", "_law_sums", "_law_change", "_law_due", "_law_alike", "_law_other", "_law_row", "_law_letter"]
abbrev P_law : List Str := ["_law_script"]
theorem sc_law : FnScope N_law P_law (defScope s_law) := ⟨rfl, rfl, rfl, by decide +kernel, rfl, by decide +kernel, by decide +kernel⟩

theorem ok_law {f fD fP fB C fCS B CB fB' fEq fLn fPen fLe fCo fBe fWr fRe fI : Addr} {fd fdD fdP fdB fdI fdCS fdB' fdEq fdLn fdPen fdLe fdCo fdBe fdWr fdRe : FuncData} (F : Fun K "law" "law" s_law f fd) (T : TxtX K mg fD fP fB C fCS B CB fB' fEq fLn fPen fLe fCo fBe fWr fRe)
    (FD : Fun K "_law_draw" "_law_draw" s__law_draw fD fdD) (b_law_draw : Binds K fdD P__law_draw []) (FP : Fun K "_law_pick" "_law_pick" s__law_pick fP fdP) (b_law_pick : Binds K fdP P__law_pick []) (FB : Fun K "_law_bits" "_law_bits" s__law_bits fB fdB) (b_law_bits : Binds K fdB P__law_bits [])
    (FI : Fun K "__init__" "Code.__init__" s_Code___init__ fI fdI) (bCode : Binds K fdI P_Code___init__ []) (MCode : Mk K C fI) (FCS : Fun K "check_states" "check_states" s_check_states fCS fdCS) (bcheck_states : Binds K fdCS P_check_states [])
    (FB' : Fun K "__init__" "BadCode.__init__" s_BadCode___init__ fB' fdB') (bB' : Binds K fdB' P_BadCode___init__ [])
    (FLn : Fun K "__len__" "Code.__len__" s_Code___len__ fLn fdLn) (bLn : Binds K fdLn P_Code___len__ []) (FEq : Fun K "__eq__" "Code.__eq__" s_Code___eq__ fEq fdEq) (bEq : Binds K fdEq P_Code___eq__ [])
    (FPen : Fun K "_law_pen" "_law_pen" s__law_pen fPen fdPen) (b_law_pen : Binds K fdPen P__law_pen []) (FLe : Fun K "_law_letters" "_law_letters" s__law_letters fLe fdLe) (b_law_letters : Binds K fdLe P__law_letters [])
    (FCo : Fun K "_law_code" "_law_code" s__law_code fCo fdCo) (b_law_code : Binds K fdCo P__law_code []) (FBe : Fun K "_law_bent" "_law_bent" s__law_bent fBe fdBe) (b_law_bent : Binds K fdBe P__law_bent [])
    (FWr : Fun K "_law_wrong" "_law_wrong" s__law_wrong fWr fdWr) (b_law_wrong : Binds K fdWr P__law_wrong []) (FRe : Fun K "_law_refused" "_law_refused" s__law_refused fRe fdRe) (b_law_refused : Binds K fdRe P__law_refused []) : FnOk P w K mg base CX0 7 f fd P_law (spLaw K) := by
  have G_law_pen : FnOk P w K mg base CX0 1 fPen fdPen P__law_pen (spPen K) := ok_pen FPen T.toTxtA
  have G_law_draw : FnOk P w K mg base CX0 1 fD fdD P__law_draw spDraw := ok_draw FD T.toTxtA
  have G_law_letters : FnOk P w K mg base CX0 2 fLe fdLe P__law_letters spLetters := ok_letters FLe T.toTxtD FD b_law_draw
  have G_law_code : FnOk P w K mg base CX0 4 fCo fdCo P__law_code (spCode K) := ok_code FCo T.toTxtB FD b_law_draw FP b_law_pick FB b_law_bits
  have G_law_bent : FnOk P w K mg base CX0 3 fBe fdBe P__law_bent (spBent K) := ok_bent FBe T.toTxtP FD b_law_draw FP b_law_pick
  have G_law_wrong : FnOk P w K mg base CX0 1 fWr fdWr P__law_wrong (spWrong K) := ok_wrong FWr ⟨T.range, T.len⟩
  have G_law_refused : FnOk P w K mg base CX0 6 fRe fdRe P__law_refused (spRefused K) := ok_refused FRe T.toTxtQ MCode FI bCode FCS bcheck_states FB' bB' FLn bLn T.te
  have GCode : FnOk P w K mg base (L2.CX P w) 4 fI fdI P_Code___init__ (spInit K C CB) := ok_init FI T.toTxtK FCS bcheck_states FB' bB'
  have GLn : FnOk P w K mg base CX0 1 fLn fdLn P_Code___len__ (spLn K C) := ok_ln FLn T.toTxtQ
  have GEq : FnOk P w K mg base CX0 1 fEq fdEq P_Code___eq__ (spEqC K C) := ok_eq FEq T.toTxtQ
  refine F.ok sc_law (fun vs H Q E h => ?_) (fun cdv A outer s H vs Q E hr h => ?_)
  · obtain ⟨a, ns, rfl, _⟩ := h
    rfl
  · obtain ⟨a, ns, rfl, hS, hlen, k⟩ := h
    refine ⟨_, (pss_cons (ps_set (i := 1) sc_law.nd rfl (Or.inl rfl) (pe_call G_law_pen (hr.mono (by decide)) (by rfl) T.m_law_pen T.k_law_pen b_law_pen .nil pass0 (pa_cons (pv 0) pa_nil)))
      (pss_cons (ps_for PassesOwn.never rfl (pi_range1 (by rfl) T.range (pa_cons (pe_op op_add pe_int (pe_callB (call_min2 rfl) (by rfl) T.min boot_min (pa_cons pe_int (pa_cons (pe_callB call_len (by rfl) T.len PySem.boot_len (pa_cons (pv 0) pa_nil)) pa_nil)))) pa_nil)) (pg_name (i := 2) sc_law.nd rfl (Or.inl rfl)) (pss_cons (ps_asg (pe_call G_law_code (hr.mono (by decide)) (by rfl) T.m_law_code T.k_law_code b_law_code .nil pass0 (pa_cons (pv 1) (pa_cons (pe_call G_law_letters (hr.mono (by decide)) (by rfl) T.m_law_letters T.k_law_letters b_law_letters .nil pass0 (pa_cons (pv 1) (pa_cons (pe_op op_add pe_int (pe_call G_law_draw (hr.mono (by decide)) (by rfl) T.m_law_draw T.k_law_draw b_law_draw .nil pass0 (pa_cons (pv 1) (pa_cons pe_int pa_nil)))) pa_nil))) (pa_cons pe_int pa_nil)))) (pg_tup (by rfl) (pgs_cons (pg_name (i := 3) sc_law.nd rfl (Or.inr rfl)) (pgs_cons (pg_name (i := 4) sc_law.nd rfl (Or.inl rfl)) (pgs_cons (pg_name (i := 5) sc_law.nd rfl (Or.inl rfl)) pgs_nil)))))
      (pss_cons (ps_par (i := 6) (j := 7) (by rfl) sc_law.nd rfl rfl (by decide) rfl rfl (pa_cons (pe_lc (own := [("_law_row", 15)]) (g := gName 15) (by rfl) sc_law.nd (pi_list (pv 4)) (blkOk_by (own := [("_law_row", 15)]) (N := N_law) (sc := defScope s_law) (by decide +kernel)) (fun _ _ _ _ _ => pg_name (i := 15) sc_law.nd rfl (Or.inl rfl)) (fun _ _ _ _ _ => pts_nil) (fun _ _ _ _ _ => (pe_callTy (call_listK (K := K) rfl) (by rfl) T.list boot_list (pa_cons (pv 15) pa_nil)))) (pa_cons (pe_callTy call_list_of (by rfl) T.list boot_list (pa_cons (pv 5) pa_nil)) pa_nil)) (by rfl))
      (pss_cons (ps_set (i := 8) sc_law.nd rfl (Or.inl rfl) (pe_make MCode GCode (hr.mono (by decide)) (by rfl) T.mgCode bCode .nil passL (pa_cons (pv 3) (pa_cons (pv 6) (pa_cons (pv 7) pa_nil)))))
      (pss_cons (ps_expr (pe_bm PySem.F.plainAttrs_list PySem.F.slot_list_append PySem.F.type_list_append mt_append (pe_ix ix_list (pv 6) pe_int (fun _ _ => rfl)) (pa_cons (pe_tup (pa_cons pe_int (pa_cons pe_int pa_nil))) pa_nil)))
      (pss_cons (ps_expr (pe_bm PySem.F.plainAttrs_list PySem.F.slot_list_append PySem.F.type_list_append mt_append (pv 6) (pa_cons (pe_lst pa_nil) pa_nil)))
      (pss_cons (ps_asg (pe_op op_add (pe_ix ix_list (pv 7) pe_int (fun _ _ => rfl)) pe_int) (pg_sub (pv 7) pe_int set_list))
      (pss_cons (ps_if (PW.pt (pw_or (pt_cmpR op_ne (pe_fld (pv 8) rfl) (pv 3) (nomark _)) (pw_or (pt_cmpR (op_neD hr.units) (pe_fld (pv 8) rfl) (pe_callTy call_tuple_of (by rfl) T.tuple boot_tuple (pa_cons (pe_lc (own := [("_law_row", 15)]) (g := gName 15) (by rfl) sc_law.nd (pi_list (pv 4)) (blkOk_by (own := [("_law_row", 15)]) (N := N_law) (sc := defScope s_law) (by decide +kernel)) (fun _ _ _ _ _ => pg_name (i := 15) sc_law.nd rfl (Or.inl rfl)) (fun _ _ _ _ _ => pts_nil) (fun _ _ _ _ _ => (pe_callTy (call_tupleK (K := K) rfl) (by rfl) T.tuple boot_tuple (pa_cons (pv 15) pa_nil)))) pa_nil)) (nomark _)) (pw_or1 (pt_cmpR (op_neD hr.units) (pe_fld (pv 8) rfl) (pe_callTy call_tuple_of (by rfl) T.tuple boot_tuple (pa_cons (pv 5) pa_nil)) (nomark _)))))) (pss_one (ps_ret pe_bl)) pss_nil)
      (pss_cons (ps_if (PW.pt (pw_or (pt_cmpR op_ne (pe_callB (call_lenI T.lns T.lnf GLn (hr.mono (by decide)) bLn pass0) (by rfl) T.len PySem.boot_len (pa_cons (pv 8) pa_nil)) (pe_callB call_len (by rfl) T.len PySem.boot_len (pa_cons (pv 4) pa_nil)) (nomark _)) (pw_or (pt_not (pt_cmpR (op_ownI (op := .Eq) (fun _ _ => rfl) T.eqs T.eqf GEq (hr.mono (by decide)) bEq pass0) (pv 8) (pe_make MCode GCode (hr.mono (by decide)) (by rfl) T.mgCode bCode .nil passL (pa_cons (pv 3) (pa_cons (pe_fld (pv 8) rfl) (pa_cons (pe_fld (pv 8) rfl) pa_nil)))) (nomark _))) (pw_or1 (pt_cmpR (op_ownT (op := .Eq) (fun _ _ => rfl) T.eqs T.eqf GEq (hr.mono (by decide)) bEq pass0 T.tsub) (pv 8) (pe_tup (pa_cons (pv 3) (pa_cons (pv 4) (pa_cons (pv 5) pa_nil)))) (nomark _)))))) (pss_one (ps_ret pe_bl)) pss_nil)
      (pss_cons (ps_par (i := 9) (j := 10) (by rfl) sc_law.nd rfl rfl (by decide) rfl rfl (pa_cons (pv 4) (pa_cons (pv 5) pa_nil)) (by rfl))
      (pss_cons (ps_for PassesOwn.never rfl (pi_range1 (by rfl) T.range (pa_cons (pe_op op_add pe_int (pe_call G_law_draw (hr.mono (by decide)) (by rfl) T.m_law_draw T.k_law_draw b_law_draw .nil pass0 (pa_cons (pv 1) (pa_cons pe_int pa_nil)))) pa_nil)) (pg_name (i := 11) sc_law.nd rfl (Or.inl rfl)) (pss_one (ps_asg (pe_call G_law_bent (hr.mono (by decide)) (by rfl) T.m_law_bent T.k_law_bent b_law_bent .nil pass0 (pa_cons (pv 1) (pa_cons (pv 9) (pa_cons (pv 10) pa_nil)))) (pg_tup (by rfl) (pgs_cons (pg_name (i := 9) sc_law.nd rfl (Or.inl rfl)) (pgs_cons (pg_name (i := 10) sc_law.nd rfl (Or.inl rfl)) pgs_nil))))))
      (pss_cons (ps_set (i := 12) sc_law.nd rfl (Or.inl rfl) (pe_call G_law_wrong (hr.mono (by decide)) (by rfl) T.m_law_wrong T.k_law_wrong b_law_wrong .nil pass0 (pa_cons (pv 3) (pa_cons (pv 9) (pa_cons (pv 10) pa_nil)))))
      (pss_cons (ps_if (pt_cmpR op_ne (pe_call G_law_refused (hr.mono (by decide)) (by rfl) T.m_law_refused T.k_law_refused b_law_refused .nil pass0 (pa_cons (pv 3) (pa_cons (pv 9) (pa_cons (pv 10) pa_nil)))) (pv 12) (nomark _)) (pss_one (ps_ret pe_bl)) pss_nil)
      (pss_cons (ps_set (i := 13) sc_law.nd rfl (Or.inl rfl) (pe_cmpR (op_eqD hr.units) (pe_tup (pa_cons (pv 9) (pa_cons (pv 10) pa_nil))) (pe_tup (pa_cons (pv 4) (pa_cons (pv 5) pa_nil))) (nomark _)))
      (pss_cons (ps_if (PW.pt (pw_and (pt_cmpR op_isN (pv 12) pe_non (nomark _)) (pw_and1 (pt_cmpR op_ne (pe_cmpR (op_ownI (op := .Eq) (fun _ _ => rfl) T.eqs T.eqf GEq (hr.mono (by decide)) bEq pass0) (pe_make MCode GCode (hr.mono (by decide)) (by rfl) T.mgCode bCode .nil passL (pa_cons (pv 3) (pa_cons (pv 9) (pa_cons (pv 10) pa_nil)))) (pv 8) (nomark _)) (pv 13) (nomark _))))) (pss_one (ps_ret pe_bl)) pss_nil)
      (pss_cons (ps_if (pt_cmpR op_ne (pe_call G_law_refused (hr.mono (by decide)) (by rfl) T.m_law_refused T.k_law_refused b_law_refused .nil pass0 (pa_cons (pv 3) (pa_cons (pe_lst pa_nil) (pa_cons (pe_lst pa_nil) pa_nil)))) pe_int (nomark _)) (pss_one (ps_ret pe_bl)) pss_nil)
      (pss_cons (ps_set (i := 14) sc_law.nd rfl (Or.inl rfl) (pe_join pe_str (pe_slice sl_list (pe_lc (own := [("_law_letter", 16)]) (g := gName 16) (by rfl) sc_law.nd (pi_str pe_str) (blkOk_by (own := [("_law_letter", 16)]) (N := N_law) (sc := defScope s_law) (by decide +kernel)) (fun _ _ _ _ _ => pg_name (i := 16) sc_law.nd rfl (Or.inl rfl)) (fun _ _ _ _ _ => (pts_one (pt_cmpR op_notIn_sign (pv 16) (pv 3) (by rfl)))) (fun _ _ _ _ _ => (pv 16))) po_none (po_some (pe_callB call_len (by rfl) T.len PySem.boot_len (pa_cons (pv 3) pa_nil))))))
      (pss_one (ps_if (pt_cmpR (op_ownI (op := .Eq) (fun _ _ => rfl) T.eqs T.eqf GEq (hr.mono (by decide)) bEq pass0) (pe_make MCode GCode (hr.mono (by decide)) (by rfl) T.mgCode bCode .nil passL (pa_cons (pv 14) (pa_cons (pv 4) (pa_cons (pv 5) pa_nil)))) (pv 8) (nomark _)) (pss_one (ps_ret pe_bl)) pss_nil)))))))))))))))))))
      (pss_one (ps_ret pe_bl)))), ?_⟩
    refine ⟨_, rfl, a, ns, rfl, hS, hlen, fun p c H1 hpn hcn hp1 s1 => ?_⟩
    have hJ : ∀ l : Nat, 0 ≤ 5 + (if (l : Int) < 8 then (l : Int) else 8) ∧ 5 + (if (l : Int) < 8 then (l : Int) else 8) ≤ 13 := fun l => by split <;> omega
    have hJ1 := hJ (ns.map V.int).length
    refine ⟨_, rfl, _, _, rfl, Or.inl ⟨_, s1.seq hS, rfl⟩, _, _, rfl, _, _, rfl, rfl, _, rfl, (by show -(2 ^ 62) ≤ 5 + (if ((ns.map V.int).length : Int) < 8 then ((ns.map V.int).length : Int) else 8); omega), (by show 5 + (if ((ns.map V.int).length : Int) < 8 then ((ns.map V.int).length : Int) else 8) < 2 ^ 62; omega),
      for_range (n := (5 + (if ((ns.map V.int).length : Int) < 8 then ((ns.map V.int).length : Int) else 8)).toNat) (fun i σ H2 => ∃ v2 v3 v4 v5 v6 v7 v8 v9 v10 v11 v12 v13 v14 v15 v16 : Option V, σ = [some (.ref a), some (.ref p), v2, v3, v4, v5, v6, v7, v8, v9, v10, v11, v12, v13, v14, v15, v16] ∧ Pen H2 p c (i * 7000))
      ⟨none, none, none, none, none, none, none, none, none, none, none, none, none, none, none, rfl, hp1⟩ ?_ ?_⟩
    · rintro i σ H2 hi ⟨v2, v3, v4, v5, v6, v7, v8, v9, v10, v11, v12, v13, v14, v15, v16, rfl, hp2⟩
      have hi13 : i < 13 := by omega
      refine ⟨_, rfl, _, rfl, _, rfl, p, c, 3, _, rfl, hp2, by omega, by decide, by decide, fun d H3 d0 d1 hp3 k3 => ⟨_, _, rfl, rfl, ?_⟩⟩
      obtain ⟨m, hm⟩ : ∃ m : Nat, 1 + d = m := ⟨(1 + d).toNat, by omega⟩
      refine ⟨p, c, m, _, (by show [V.ref p, V.int (1 + d)] = [V.ref p, V.int m]; rw [hm]), hp3, by omega, by omega, fun z H4 hz hp4 k4 => ?_⟩
      have hzl : z.length = m := hz.1
      have hz1 : 1 ≤ z.length := by omega
      have hz3 : z.length ≤ 3 := by omega
      refine ⟨p, c, z, 6, _, rfl, hp4, by omega, by decide, by decide, by omega, fun t rs es H5 hD hg hrl hp5 k5 => ?_⟩
      obtain ⟨ta, us, rfl, ht1, ht2⟩ := hD.tupE
      cases ht2 with
      | cons h1 ht2 =>
        obtain rfl := h1.strE
        cases ht2 with
        | cons hR ht2 =>
          cases ht2 with
          | cons hE ht2 =>
            cases ht2
            obtain ⟨r, xs, rfl, hr1, hr2⟩ := id hR.listE
            obtain ⟨e, ys, rfl, he1, he2⟩ := id hE.listE
            obtain rfl := dpAll_intsE he2
            have lr : xs.length = rs.length := by rw [hr2.length, List.length_map]
            have hok := hg.all
            have hpos := hg.pos
            have hlen5 := hg.len
            have hrow5 : ∀ r ∈ rs, r.length = z.length := fun r hr => (hg.row r hr).1
            refine ⟨ta, _, rfl, ht1, rfl, _, _, rfl, _, _, rfl, _, _, rfl, rfl, ?_⟩
            -- the lists given
            refine ⟨_, rfl, r, rfl, ⟨_, hr1⟩, fun G hG => lc_list (K := K) (a := r) (xs := xs) (fun i H6 => ∃ ws : List Addr, H6 G = some (.lst (ws.map V.ref)) ∧ ws.length = i ∧ (∀ (j : Nat) (w : Addr) (hj : j < rs.length), ws[j]? = some w → ∃ ts, H6 w = some (.lst ts) ∧ H5 w = none ∧ w ≠ G ∧ DpAll K H5 ts (rs[j].map tupD)) ∧ Same H5 H6)
              ⟨[], upd_same, rfl, (fun j w _ h => by simp at h), same_new hG⟩ (fun i H6 _ ⟨_, _, _, _, s6⟩ => s6.seq hr1) ?_ ?_⟩
            · rintro i x H6 hx ⟨ws, hG6, hwl, hws, s6⟩
              obtain ⟨hi, _⟩ := List.getElem?_eq_some_iff.mp hx
              have hi' : i < rs.length := by omega
              obtain ⟨v, hv, hrow⟩ := hr2.get (i := i) (d := rowD rs[i]) (by rw [List.getElem?_map, List.getElem?_eq_getElem hi']; rfl)
              obtain rfl : x = v := Option.some.inj (hx.symm.trans hv)
              obtain ⟨w5, ts, rfl, hw1, hw2⟩ := hrow.listE
              refine ⟨rfl, ?_⟩
              refine lcYes ?_
              refine ⟨_, rfl, w5, ts, rfl, Or.inl (s6.seq hw1), fun q hq => ⟨ws.map V.ref, by rw [upd_ne (ne_of_none hG6 hq)]; exact hG6, ?_, ws ++ [q], ?_, ?_, ?_, (s6.trans (same_new hq)).put hG⟩⟩
              · rw [List.length_map]; exact small1000 (by omega)
              · rw [upd_same, List.map_append]; rfl
              · rw [List.length_append, hwl]; rfl
              · intro j w hj hw
                have nqG : q ≠ G := (ne_of_none hG6 hq).symm
                by_cases hjw : j < ws.length
                · rw [List.getElem?_append_left hjw] at hw
                  obtain ⟨ts', a1, a2, a3, a4⟩ := hws j w hj hw
                  exact ⟨ts', by rw [upd_ne a3, upd_ne (ne_of_none a1 hq)]; exact a1, a2, a3, a4⟩
                · have ej : j = ws.length := by
                    have := (List.getElem?_eq_some_iff.mp hw).1
                    rw [List.length_append] at this
                    have : j < ws.length + 1 := this
                    omega
                  subst ej
                  rw [List.getElem?_append_right (Nat.le_refl _), Nat.sub_self] at hw
                  obtain rfl : q = w := Option.some.inj hw
                  refine ⟨ts, by rw [upd_ne nqG, upd_same], s6.free hq, nqG, ?_⟩
                  have : ∀ (n : Nat) (hn : n < rs.length), n = i → DpAll K H5 ts (rs[n].map tupD) := fun n hn e => by subst e; exact hw2
                  exact this _ hj hwl
            rintro H6 ⟨ws, hG6, hwl, hws, s6⟩
            have hwl : ws.length = rs.length := by rw [hwl, lr]
            refine ⟨_, rfl, e, _, rfl, Or.inl (s6.seq he1), fun L0 hL0 => ?_⟩
            refine ⟨_, _, rfl, ?_⟩
            have hL0n : H5 L0 = none := s6.free hL0
            have nGL : G ≠ L0 := ne_of_none hG6 hL0
            have hRg : Rws K (L2.upd H6 L0 (.lst (es.map V.int))) (.ref G) rs := Or.inl (.lst (SqL.of (by rw [upd_ne nGL]; exact hG6)) (dpAll_of (by rw [List.length_map, List.length_map]; exact hwl) fun j v d h1 h2 => by
              rw [List.getElem?_map] at h1 h2
              obtain ⟨w, hw, rfl⟩ := Option.map_eq_some_iff.mp h1
              obtain ⟨rw', hrw, rfl⟩ := Option.map_eq_some_iff.mp h2
              obtain ⟨hj, e1⟩ := List.getElem?_eq_some_iff.mp hrw
              obtain ⟨ts, b1, b2, b3, b4⟩ := hws j w hj hw
              rw [e1] at b4
              exact .lst (SqL.of ((same_new hL0) _ _ b1)) (b4.mv (Kl.same (s6.trans (same_new hL0))))))
            have hEg : Ens K (L2.upd H6 L0 (.lst (es.map V.int))) (.ref L0) es := Or.inl (.lst (SqL.of upd_same) (dpAll_ints K _ es))
            have s67 : Same H6 (L2.upd H6 L0 (.lst (es.map V.int))) := same_new hL0
            have hL7 : (L2.upd H6 L0 (.lst (es.map V.int))) L0 = some (.lst (es.map V.int)) := upd_same
            generalize L2.upd H6 L0 (.lst (es.map V.int)) = H7 at *
            refine ⟨_, rfl, _, rfl, _, rfl, fun x dx hx hdx ne => ?_⟩
            have hx' : (L2.upd H7 dx (.own x)) x = none := by rw [upd_ne ne.symm]; exact hx
            have s78 : Same H7 (L2.upd (L2.upd H7 dx (.own x)) x (.ins C dx [])) := (same_new hdx).trans (same_new hx')
            refine ⟨x, dx, z, .ref G, .ref L0, rs, es, rfl, upd_same, hRg.mv (Kl.same s78), hEg.mv (Kl.same s78), by omega, by omega, by omega, (fun r hr => by have := hrow5 r hr; omega), fun _ H9 hC hk => ⟨rfl, ?_⟩, fun i hb => absurd hb (hok.not_bad i)⟩
            have s79 : Same H7 H9 := fun b u e => hk b u (s78 _ _ e) (ne_of_none e hx)
            have s59 : Same H5 H9 := s6.trans (s67.trans s79)
            have hL9 := s79 _ _ hL7
            have hG9 := s79 _ _ (s67 _ _ hG6)
            obtain ⟨w0, hw0⟩ : ∃ w0, ws[0]? = some w0 := ⟨ws[0]'(by omega), List.getElem?_eq_getElem (by omega)⟩
            obtain ⟨ts0, a1, a2, a3, a4⟩ := hws 0 w0 (by omega) hw0
            have hw9 := s79 _ _ (s67 _ _ a1)
            have lt0 : ts0.length = rs[0].length := by rw [a4.length, List.length_map]
            have lr0 := hrow5 rs[0] (List.getElem_mem (by omega))
            -- what was given is changed
            refine ⟨_, rfl, G, ws.map V.ref, 0, .ref w0, rfl, rfl, SqL.of hG9, atI_nat (j := 0) (by rw [List.getElem?_map, hw0]; rfl), Or.inl ⟨rfl, _, SqL.of hw9⟩, (by show 2 ≤ sizeLine; decide), fun q1 hq1 => ⟨w0, ts0, .ref q1, rfl, rfl, (same_new hq1) _ _ hw9, small1000 (by omega), ?_⟩⟩
            have nwL : w0 ≠ L0 := ne_of_none a1 hL0
            have hG10 : (L2.upd (L2.upd H9 q1 (.tup [.int 0, .int 9])) w0 (.lst (ts0 ++ [.ref q1]))) G = some (.lst (ws.map V.ref)) := by rw [upd_ne (Ne.symm a3)]; exact (same_new hq1) _ _ hG9
            refine ⟨_, rfl, Or.inl ⟨rfl, _, SqL.of hG10⟩, (by show 0 ≤ sizeLine; decide), fun q2 hq2 => ⟨G, _, .ref q2, rfl, rfl, (same_new hq2) _ _ hG10, small1000 (by rw [List.length_map]; omega), ?_⟩⟩
            have k9 : KtT H9 H9 := fun b u e _ => e
            have nq2w : q2 ≠ w0 := fun q => by rw [q, upd_same] at hq2; cases hq2
            have hq2' : H9 q2 = none := by
              rw [upd_ne nq2w] at hq2
              by_cases e : q2 = q1
              · rw [e]; exact hq1
              · rw [upd_ne e] at hq2; exact hq2
            have k10 : KtT H9 (L2.upd (L2.upd (L2.upd (L2.upd H9 q1 (.tup [.int 0, .int 9])) w0 (.lst (ts0 ++ [.ref q1]))) q2 (.lst [])) G (.lst (ws.map V.ref ++ [.ref q2]))) := (((k9.new hq1).put hw9).new hq2').put hG9
            obtain ⟨p1, p2⟩ := hp5.new a2
            obtain ⟨p3, p4⟩ := hp5.new hG
            obtain ⟨p5, p6⟩ := hp5.new hL0n
            have kp10 : Kp p H5 (L2.upd (L2.upd (L2.upd (L2.upd H9 q1 (.tup [.int 0, .int 9])) w0 (.lst (ts0 ++ [.ref q1]))) q2 (.lst [])) G (.lst (ws.map V.ref ++ [.ref q2]))) := (((((Kp.of s59).trans (Kp.of (same_new hq1))).put a2).trans (Kp.of (same_new hq2))).put hG)
            have pn10 : Pen (L2.upd (L2.upd (L2.upd (L2.upd H9 q1 (.tup [.int 0, .int 9])) w0 (.lst (ts0 ++ [.ref q1]))) q2 (.lst [])) G (.lst (ws.map V.ref ++ [.ref q2]))) p c (i * 7000 + 5100) := ((((((hp5.same s59).same (same_new hq1)).put p1 p2).same (same_new hq2)).put p3 p4)).mono (by omega)
            have hL10 : (L2.upd (L2.upd (L2.upd (L2.upd H9 q1 (.tup [.int 0, .int 9])) w0 (.lst (ts0 ++ [.ref q1]))) q2 (.lst [])) G (.lst (ws.map V.ref ++ [.ref q2]))) L0 = some (.lst (es.map V.int)) := by
              rw [upd_ne nGL.symm]
              refine (same_new hq2) _ _ ?_
              rw [upd_ne nwL.symm]
              exact (same_new hq1) _ _ hL9
            generalize L2.upd (L2.upd (L2.upd (L2.upd H9 q1 (.tup [.int 0, .int 9])) w0 (.lst (ts0 ++ [.ref q1]))) q2 (.lst [])) G (.lst (ws.map V.ref ++ [.ref q2])) = H10 at *
            obtain ⟨ev, hev⟩ : ∃ ev, es[0]? = some ev := ⟨es[0]'(by omega), List.getElem?_eq_getElem (by omega)⟩
            have hev' : (es.map V.int)[0]? = some (.int ev) := by rw [List.getElem?_map, hev]; rfl
            refine ⟨_, rfl, L0, _, 0, _, rfl, rfl, SqL.of hL10, atI_nat (j := 0) hev', _, _, rfl, rfl, _, rfl, L0, _, 0, 0, rfl, rfl, hL10, ixN_nat (i := 0) (by rw [List.length_map]; omega), ?_⟩
            have k11 := k10.put (o := .lst ((es.map V.int).set 0 (.int (ev + 1)))) hL9
            have kp11 := kp10.put (o := .lst ((es.map V.int).set 0 (.int (ev + 1)))) hL0n
            have pn11 := pn10.put (o := .lst ((es.map V.int).set 0 (.int (ev + 1)))) p5 p6
            have hC11 := hC.kt k11
            obtain ⟨kv5, hd5⟩ := id hp5.dk
            have hR11 := hR.mv (Kl.kp kp11 hd5)
            have hE11 := hE.mv (Kl.kp kp11 hd5)
            have kp11' : Kp p H5 (L2.upd H10 L0 (.lst ((es.map V.int).set 0 (.int (ev + 1))))) := kp11
            revert hC11 hR11 hE11 pn11
            generalize L2.upd H10 L0 (.lst ((es.map V.int).set 0 (.int (ev + 1)))) = H11 at *
            intro pn11 hC11 hR11 hE11
            clear k11 kp11 k10 kp10 pn10 hL10 hG10 hws hG9 hL9 hw9 a1 s59 s79 s78 s67 hRg hEg hL7 hk hC s6 hG6 hR hE hr1 hr2 he1 he2 ht1 kp11'
            -- the code is as it was
            obtain ⟨dx', Rv, Ev, ho, hRc, hEc⟩ := id hC11
            obtain ⟨rr, xs1, eqr, hr1, hr2⟩ := id hR11.listE
            have eqr := V.ref.inj eqr
            subst eqr
            obtain ⟨ee, ys1, eqe, he1, he2⟩ := id hE11.listE
            have eqe := V.ref.inj eqe
            subst eqe
            obtain rfl := dpAll_intsE he2
            have lr : xs1.length = rs.length := by rw [hr2.length, List.length_map]
            refine ⟨_, rfl, x, C, dx', _, _, rfl, ho, T.cl, T.nL, cf_letters _ _ _, _, rfl, rfl, _, rfl, ite2 (fun c1 => absurd c1 (by simp)) (fun _ => ?_)⟩
            refine ⟨_, rfl, x, C, dx', _, _, rfl, ho, T.cl, T.nR, cf_rows _ _ _, _, rfl, r, rfl, ⟨_, hr1⟩, fun D hD => lc_list (K := K) (a := r) (xs := xs1) (fun i H12 => ∃ vs : List V, H12 D = some (.lst vs) ∧ DpAll K (L2.del H12 D) vs ((rs.take i).map rowT) ∧ Same H11 H12)
              ⟨[], upd_same, .nil, same_new hD⟩ (fun i H12 _ ⟨_, _, _, s12⟩ => s12.seq hr1) ?_ ?_⟩
            · rintro i x1 H12 hx ⟨vs, hD1, hd1, s12⟩
              obtain ⟨hi, _⟩ := List.getElem?_eq_some_iff.mp hx
              have hi' : i < rs.length := by omega
              obtain ⟨v, hv, hrow⟩ := hr2.get (i := i) (d := rowD rs[i]) (by rw [List.getElem?_map, List.getElem?_eq_getElem hi']; rfl)
              obtain rfl : x1 = v := Option.some.inj (hx.symm.trans hv)
              obtain ⟨w5, ts, rfl, hw1, hw2⟩ := hrow.listE
              refine ⟨rfl, ?_⟩
              refine lcYes ?_
              refine ⟨_, rfl, w5, ts, rfl, Or.inl ⟨s12.seq hw1, fun q hq => ⟨vs, by rw [upd_ne (ne_of_none hD1 hq)]; exact hD1, ?_, vs ++ [.ref q], upd_same, ?_, (s12.trans (same_new hq)).put hD⟩⟩⟩
              · rw [hd1.length, List.length_map, List.length_take]; exact small1000 (by omega)
              · have nqD : q ≠ D := (ne_of_none hD1 hq).symm
                have e0 : Kl (L2.del H12 D) (L2.del (L2.upd (L2.upd H12 q (.tup ts)) D (.lst (vs ++ [.ref q]))) D) := fun b o e _ => by
                  obtain ⟨h1, h2⟩ := del_some e
                  rw [del_ne h1, upd_ne h1, upd_ne (ne_of_none h2 hq)]
                  exact h2
                have e1 : Kl H11 (L2.del (L2.upd (L2.upd H12 q (.tup ts)) D (.lst (vs ++ [.ref q]))) D) := fun b o e _ => by
                  have hb : b ≠ D := ne_of_none e hD
                  rw [del_ne hb, upd_ne hb, upd_ne (ne_of_none (s12 _ _ e) hq)]
                  exact s12 _ _ e
                rw [take_more hi', List.map_append]
                refine (hd1.mv e0).snoc (.tup (xs := ts) (SqT.of ?_) (hw2.mv e1))
                rw [del_ne nqD, upd_ne nqD, upd_same]
            rintro H12 ⟨vs, hD12, hd12, s12⟩
            rw [lr, List.take_of_length_le (Nat.le_refl _)] at hd12
            refine ⟨D, vs, rfl, Or.inl ⟨SqL.of hD12, fun t3 ht3 => ⟨rowsT rs, rowsT rs, hRc.mv (Kl.same (s12.trans (same_new ht3))), .tup (SqT.of upd_same) (hd12.mv ((Kl.undel _ _).trans (Kl.same (same_new ht3)))), shaped_rowsT _, shaped_rowsT _, ?_⟩⟩⟩
            rw [eqv_rowsT, decide_eq_true rfl]
            have s13 := s12.trans (same_new (o := .tup vs) ht3)
            refine ⟨_, rfl, ite2 (fun c1 => absurd c1 (by decide)) (fun _ => ?_)⟩
            refine ⟨_, rfl, x, C, dx', _, _, rfl, s13 _ _ ho, T.cl, T.nE, cf_ends _ _ _, _, rfl, e, _, rfl, Or.inl ⟨s13.seq he1, fun t4 ht4 => ⟨intsT es, intsT es, hEc.mv (Kl.same (s13.trans (same_new ht4))), .tup (SqT.of upd_same) (dpAll_ints K _ es), shaped_intsT _, shaped_intsT _, ?_⟩⟩⟩
            rw [eqv_intsT, decide_eq_true rfl]
            have s14 := s13.trans (same_new (o := .tup (es.map V.int)) ht4)
            refine ⟨_, rfl, ite2 (fun c1 => absurd c1 (by decide)) (fun _ => ?_)⟩
            generalize L2.upd (L2.upd H12 t3 (.tup vs)) t4 (.tup (es.map V.int)) = H14 at *
            -- its length; equal to one made anew; not equal to a tuple
            refine ⟨_, rfl, x, dx', _, rfl, s14 _ _ ho, x, z, rs, es, rfl, hC11.same s14, fun H15 s15 => ⟨rs.length, rfl, Nat.le_of_lt (small1000 (by omega)), _, rfl, _, _, rfl, Or.inl ⟨_, (s14.trans s15).seq hr1, rfl⟩, rfl, _, rfl, ite2 (fun c1 => absurd c1 (by rw [lr]; simp)) (fun _ => ?_)⟩⟩
            have s1115 := s14.trans s15
            refine ⟨_, rfl, _, rfl, _, rfl, x, C, dx', _, _, rfl, s1115 _ _ ho, T.cl, T.nR, cf_rows _ _ _, _, rfl, x, C, dx', _, _, rfl, s1115 _ _ ho, T.cl, T.nE, cf_ends _ _ _, fun y dy hy hdy ne2 => ?_⟩
            have hy' : (L2.upd H15 dy (.own y)) y = none := by rw [upd_ne ne2.symm]; exact hy
            have s15a : Same H15 (L2.upd (L2.upd H15 dy (.own y)) y (.ins C dy [])) := (same_new hdy).trans (same_new hy')
            refine ⟨y, dy, z, Rv, Ev, rs, es, rfl, upd_same, Or.inr (hRc.mv (Kl.same (s1115.trans s15a))), Or.inr (hEc.mv (Kl.same (s1115.trans s15a))), by omega, by omega, by omega, (fun r hr => by have := hrow5 r hr; omega), fun _ H16 hC16 hk => ⟨rfl, ?_⟩, fun i hb => absurd hb (hok.not_bad i)⟩
            have s1116 : Same H11 H16 := s1115.trans fun b u e => hk b u (s15a _ _ e) (ne_of_none e hy)
            obtain ⟨dy', Ry, Ey, hoy, _, _⟩ := id hC16
            refine ⟨x, dx', _, y, dy', _, rfl, rfl, s1116 _ _ ho, hoy, x, .ref y, z, rs, es, rfl, hC11.same s1116, Or.inl ⟨y, z, rs, es, rfl, hC16, fun H17 s17 => ⟨_, rfl, ?_⟩⟩⟩
            refine ite2 (fun c1 => absurd c1 (by simp)) (fun _ => ?_)
            have s1117 := s1116.trans s17
            refine ⟨_, rfl, _, rfl, _, rfl, _, rfl, by show 3 ≤ sizeLine; decide, fun q hq => ⟨x, dx', _, q, _, rfl, rfl, (s1117.trans (same_new hq)) _ _ ho, SqT.of upd_same, x, .ref q, z, rs, es, rfl, hC11.same (s1117.trans (same_new hq)), Or.inr ⟨q, _, rfl, upd_same, fun H18 s18 => ⟨_, rfl, ite2 (fun c1 => absurd c1 (by decide)) (fun _ => ?_)⟩⟩⟩⟩
            have s1118 : Same H11 H18 := (s1117.trans (same_new hq)).trans s18
            have hC18 := hC11.same s1118
            have hR18 := hR11.mv (Kl.same s1118)
            have hE18 := hE11.mv (Kl.same s1118)
            have pn18 := pn11.same s1118
            clear s1118 s18 s1117 s17 s1116 s15a s1115 s14 s13 s12 hd12 hD12 hC16 hoy hk ho hRc hEc hr1 hr2 he1 he2 hC11 hR11 hE11 pn11
            -- bent once or twice
            obtain ⟨kv18, hd18⟩ := id pn18.dk
            refine ⟨_, rfl, _, rfl, _, _, rfl, ?_⟩
            refine ⟨_, rfl, p, c, 2, _, rfl, pn18, by omega, by decide, by decide, fun d2 H19 d20 d21 hp19 k19 => ⟨_, _, rfl, rfl, _, rfl, (by show -(2 ^ 62) ≤ 1 + d2; omega), (by show 1 + d2 < 2 ^ 62; omega), for_range (n := (1 + d2).toNat) (fun j σ H20 => ∃ (Ra Ea : V) (rs' : List Row) (es' : List Int) (v11' : Option V), σ = [some (.ref a), some (.ref p), some (.int (0 + i)), some (.str z), some (.ref r), some (.ref e), some (.ref G), some (.ref L0), some (.ref x), some Ra, some Ea, v11', v12, v13, v14, v15, v16] ∧
              Dp K H20 Ra (rowsD rs') ∧ Dp K H20 Ea (intsD es') ∧ rs'.length = rs.length ∧ es'.length ≤ 26 + j ∧ (∀ r ∈ rs', r.length ≤ 26 + j) ∧ Pen H20 p c (i * 7000 + 5101 + j * 4) ∧ Kp p H18 H20)
              ⟨_, _, rs, es, _, rfl, hR18.mv (Kl.kp k19 hd18), hE18.mv (Kl.kp k19 hd18), rfl, by omega, (fun r hr => by have := hrow5 r hr; omega), hp19.mono (by omega), k19⟩ ?_ ?_⟩⟩
            · rintro j σ H20 hj ⟨Ra, Ea, rs', es', v11', rfl, hRa, hEa, l1, l2, l3, pn20, k20⟩
              have hj : j < (1 + d2).toNat := hj
              obtain ⟨kv20, hd20⟩ := id pn20.dk
              refine ⟨_, rfl, _, rfl, _, rfl, p, c, Ra, Ea, rs', es', _, 26 + j, rfl, pn20, by omega, hRa, hEa, by omega, by omega, l2, l3, by omega, fun t R2 E2 rs2 es2 H21 ht hR2 hE2 m1 m2 m3 hp21 k21 => ⟨t, _, rfl, SqT.of ht, rfl, _, _, rfl, _, _, rfl, rfl, R2, E2, rs2, es2, _, rfl, hR2, hE2, by omega, by omega, (fun r hr => by have := m3 r hr; omega), hp21.mono (by omega), k20.trans k21⟩⟩
            rintro σ H19' ⟨Ra, Ea, rs', es', v11', rfl, hRa, hEa, l1, l2, l3, pn19, k19'⟩
            have hC19 := hC18.kp k19' hd18
            have hR19 := hR18.mv (Kl.kp k19' hd18)
            have hE19 := hE18.mv (Kl.kp k19' hd18)
            have l2 : es'.length ≤ 100 := by omega
            have l3 : ∀ r ∈ rs', r.length ≤ 100 := fun r hr => by have := l3 r hr; omega
            have pn19 := pn19.mono (show i * 7000 + 5101 + (1 + d2).toNat * 4 ≤ i * 7000 + 6000 by omega)
            clear k19 k19' hC18 hR18 hE18 pn18 hd18 hp19
            rcases ok_or_bad z.length rs' es' with hok' | ⟨bi, hbad⟩
            · refine ⟨_, rfl, _, rfl, _, rfl, z, Ra, Ea, rs', es', rfl, hRa, hEa, by omega, by omega, l2, l3, by omega, fun _ H20 s20 => ?_, fun i hb => absurd hb (hok'.not_bad i)⟩
              refine ⟨_, rfl, _, rfl, _, rfl, z, Ra, Ea, rs', es', rfl, Or.inl (hRa.mv (Kl.same s20)), Or.inl (hEa.mv (Kl.same s20)), by omega, by omega, l2, l3, fun _ H21 s21 => ⟨_, rfl, rfl, _, rfl, ite2 (fun c1 => absurd c1 (by simp)) (fun _ => ?_)⟩, fun i hb => absurd hb (hok'.not_bad i)⟩
              have s1921 := s20.trans s21
              refine ⟨_, rfl, _, rfl, by show 2 ≤ sizeLine; decide, fun q3 h3 => ⟨_, rfl, _, rfl, by show 2 ≤ sizeLine; decide, fun q4 h4 => ⟨.tuple [rowsD rs', intsD es'], .tuple [rowsD rs, intsD es], .tup (SqT.of ((same_new h4) _ _ upd_same)) (.cons (hRa.mv (Kl.same ((s1921.trans (same_new h3)).trans (same_new h4)))) (.cons (hEa.mv (Kl.same ((s1921.trans (same_new h3)).trans (same_new h4)))) .nil)), .tup (SqT.of upd_same) (.cons (hR19.mv (Kl.same ((s1921.trans (same_new h3)).trans (same_new h4)))) (.cons (hE19.mv (Kl.same ((s1921.trans (same_new h3)).trans (same_new h4)))) .nil)), shaped_pair _ _, shaped_pair _ _, ?_⟩⟩⟩
              rw [eqv_pair]
              have s1922 := (s1921.trans (same_new (o := .tup [Ra, Ea]) h3)).trans (same_new (o := .tup [.ref r, .ref e]) h4)
              generalize L2.upd (L2.upd H21 q3 (.tup [Ra, Ea])) q4 (.tup [.ref r, .ref e]) = H22 at *
              obtain ⟨dx', Rv, Ev, ho, hRc, hEc⟩ := id hC19
              refine ⟨_, rfl, rfl, _, rfl, ite2 (fun _ => ?_) (fun c1 => absurd c1 (by simp))⟩
              refine ⟨_, rfl, _, rfl, _, rfl, fun y dy hy hdy ne2 => ?_⟩
              have hy' : (L2.upd H22 dy (.own y)) y = none := by rw [upd_ne ne2.symm]; exact hy
              have s22a : Same H22 (L2.upd (L2.upd H22 dy (.own y)) y (.ins C dy [])) := (same_new hdy).trans (same_new hy')
              refine ⟨y, dy, z, Ra, Ea, rs', es', rfl, upd_same, Or.inl (hRa.mv (Kl.same (s1922.trans s22a))), Or.inl (hEa.mv (Kl.same (s1922.trans s22a))), by omega, by omega, l2, l3, fun _ H23 hC23 hk => ⟨rfl, ?_⟩, fun i hb => absurd hb (hok'.not_bad i)⟩
              have s1923 : Same H19' H23 := s1922.trans fun b u e => hk b u (s22a _ _ e) (ne_of_none e hy)
              obtain ⟨dy', Ry, Ey, hoy, _, _⟩ := id hC23
              refine ⟨_, rfl, y, dy', _, x, dx', _, rfl, rfl, hoy, s1923 _ _ ho, y, .ref x, z, rs', es', rfl, hC23, Or.inl ⟨x, z, rs, es, rfl, hC19.same s1923, fun H24 s24 => ⟨_, rfl, rfl, _, rfl, ite2 (fun c1 => absurd c1 (by simp)) (fun _ => ?_)⟩⟩⟩
              have s1924 := s1923.trans s24
              -- no states at all
              refine ⟨_, rfl, by show 0 ≤ sizeLine; decide, fun n1 hn1 => ⟨by show 0 ≤ sizeLine; decide, fun n2 hn2 => ⟨z, .ref n1, .ref n2, [], [], rfl, Or.inl (.lst (SqL.of ((same_new hn2) _ _ upd_same)) .nil), Or.inl (.lst (SqL.of upd_same) .nil), by omega, by decide, by decide, (fun r hr => nomatch hr), fun hk => absurd hk.2.1 (by decide), fun bk hbk H25 s25 => ?_⟩⟩⟩
              obtain rfl : bk = 0 := by
                rcases hbk with ⟨h, _⟩ | ⟨h, _⟩
                · exact absurd h (Nat.not_lt_zero _)
                · exact h
              refine ⟨rfl, _, rfl, ite2 (fun c1 => absurd c1 (by simp)) (fun _ => ?_)⟩
              have s1925 := s1924.trans (((same_new hn1).trans (same_new hn2)).trans s25)
              clear s25
              -- other letters
              have hzs : z.length ≤ sizeLine := Nat.le_of_lt (small1000 (by omega))
              refine ⟨⟨_, rfl⟩, _, rfl, fun D hDn => lc_it (walk_strS (z := Str.ofString "abcdefghij")) (fun j H26 => H26 D = some (.lst (((abc.take j).filter (fun x => decide (x ∉ TL.tl z))).map fun x => V.str (sg x))) ∧ Same H25 H26)
                ⟨upd_same, same_new hDn⟩ (fun _ _ _ _ => trivial) ?_ ?_⟩
              · rintro l x H26' H26 hl ⟨hD26, s26⟩ ⟨rfl, cc, hcc, rfl⟩
                obtain ⟨hlt, he⟩ := List.getElem?_eq_some_iff.mp hcc
                have et : abc.take (l + 1) = abc.take l ++ [cc] := by rw [← he]; exact take_more hlt
                refine ⟨rfl, _, rfl, _, rfl, cc, z, rfl, rfl, _, rfl, ite2 (fun c2 => ?_) (fun c2 => ?_)⟩
                · refine ⟨_, rfl, _, hD26, ?_, ?_, s26.put hDn⟩
                  · rw [List.length_map]
                    refine Nat.lt_of_le_of_lt (List.length_filter_le _ _) (Nat.lt_of_le_of_lt (List.length_take_le' _ _) ?_)
                    exact small1000 (by decide +kernel)
                  · rw [upd_same, et, List.filter_append, List.map_append]
                    have : decide (cc ∉ TL.tl z) = true := by simpa using c2
                    rw [List.filter_cons_of_pos (by simpa using this)]
                    rfl
                · refine ⟨?_, s26⟩
                  rw [hD26, et, List.filter_append]
                  have : ¬ decide (cc ∉ TL.tl z) = true := by simpa using c2
                  rw [List.filter_cons_of_neg (by simpa using this), List.filter_nil, List.append_nil]
              rintro H26 ⟨hD26, s26⟩
              rw [show (Str.ofString "abcdefghij").length = abc.length from rfl, List.take_length] at hD26
              refine ⟨_, rfl, _, _, rfl, ⟨hzs, rfl⟩, _, rfl, D, _, rfl, SqL.of hD26, fun S hS => ?_⟩
              rw [cutV_toN, ← List.map_take]
              have hmore := abc_more (z := TL.tl z)
              have lzt : (TL.tl z).length = z.length := (TL.len_tl z).symm
              have hne : ∃ cc rest, (abc.filter (fun x => decide (x ∉ TL.tl z))).take z.length = cc :: rest := by
                cases e : (abc.filter (fun x => decide (x ∉ TL.tl z))).take z.length with
                | nil =>
                  have hh := congrArg List.length e
                  rw [List.length_take] at hh
                  have hh : min z.length (abc.filter (fun x => decide (x ∉ TL.tl z))).length = 0 := hh
                  omega
                | cons a r => exact ⟨a, r, rfl⟩
              have hnot : ∀ y ∈ (abc.filter (fun x => decide (x ∉ TL.tl z))).take z.length, y ∉ TL.tl z := fun y hy => by
                simpa using (List.mem_filter.mp (List.mem_of_mem_take hy)).2
              have hlen' : ((abc.filter (fun x => decide (x ∉ TL.tl z))).take z.length).length = z.length := by rw [List.length_take]; omega
              generalize (abc.filter (fun x => decide (x ∉ TL.tl z))).take z.length = cs at *
              have ej : TL.tl (Txt.join (Str.ofString "") (cs.map sg)) = cs := join_sg cs
              have el : (Txt.join (Str.ofString "") (cs.map sg)).length = z.length := by rw [TL.len_tl, ej, hlen']
              have en : Txt.join (Str.ofString "") (cs.map sg) ≠ z := fun q => by
                obtain ⟨cc, rest, hcr⟩ := hne
                have : cc ∈ cs := by rw [hcr]; exact List.mem_cons_self ..
                refine hnot cc this ?_
                rw [← q, ej]; exact this
              refine ⟨_, S, cs.map sg, rfl, rfl, Or.inl (SqL.of (by rw [upd_same, List.map_map]; rfl)), ?_, ?_⟩
              · rw [sum_sg]
                show cs.length + (cs.map sg).length * 0 ≤ 16777216
                omega
              generalize Txt.join (Str.ofString "") (cs.map sg) = zz at *
              have s1927 := s1925.trans (s26.trans (same_new (o := .lst (cs.map fun x => V.str (sg x))) hS))
              refine ⟨_, rfl, _, rfl, _, rfl, fun y dy hy hdy ne2 => ?_⟩
              have hy' : (L2.upd (L2.upd H26 S (.lst (cs.map fun x => V.str (sg x)))) dy (.own y)) y = none := by rw [upd_ne ne2.symm]; exact hy
              have s27a := (same_new (o := .own y) hdy).trans (same_new (o := .ins C dy []) hy')
              have hokz : AllOk zz.length rs es := by rw [el]; exact hok
              refine ⟨y, dy, zz, .ref r, .ref e, rs, es, rfl, upd_same, Or.inl (hR19.mv (Kl.same (s1927.trans s27a))), Or.inl (hE19.mv (Kl.same (s1927.trans s27a))), by omega, by omega, by omega, (fun r hr => by have := hrow5 r hr; omega), fun _ H28 hC28 hk => ⟨rfl, ?_⟩, fun i hb => absurd hb (hokz.not_bad i)⟩
              have s1928 : Same H19' H28 := s1927.trans fun b u e => hk b u (s27a _ _ e) (ne_of_none e hy)
              obtain ⟨dy2, Ry2, Ey2, hoy2, _, _⟩ := id hC28
              obtain ⟨dx2, Rv2, Ev2, ho2, _, _⟩ := id hC19
              refine ⟨_, rfl, y, dy2, _, x, dx2, _, rfl, rfl, hoy2, s1928 _ _ ho2, y, .ref x, zz, rs, es, rfl, hC28, Or.inl ⟨x, z, rs, es, rfl, hC19.same s1928, fun H29 s29 => ⟨_, rfl, ite2 (fun c1 => absurd c1 (by simp [en])) (fun _ => ?_)⟩⟩⟩
              exact ⟨_, _, _, _, _, _, _, _, _, _, _, _, _, _, _, rfl, (pn19.same (s1928.trans s29)).mono (by omega)⟩
            · refine ⟨_, rfl, _, rfl, _, rfl, z, Ra, Ea, rs', es', rfl, hRa, hEa, by omega, by omega, l2, l3, by omega, fun hk => absurd hbad (hk.not_bad bi), fun bi hbad H20 s20 => ?_⟩
              refine ⟨_, rfl, _, rfl, _, rfl, z, Ra, Ea, rs', es', rfl, Or.inl (hRa.mv (Kl.same s20)), Or.inl (hEa.mv (Kl.same s20)), by omega, by omega, l2, l3, fun hk => absurd hbad (hk.not_bad bi), fun bj hbadj H21 s21 => ?_⟩
              obtain rfl := hbad.uniq hbadj
              refine ⟨_, rfl, rfl, _, rfl, ite2 (fun c1 => absurd c1 (by simp)) (fun _ => ?_)⟩
              have s1921 := s20.trans s21
              refine ⟨_, rfl, _, rfl, by show 2 ≤ sizeLine; decide, fun q3 h3 => ⟨_, rfl, _, rfl, by show 2 ≤ sizeLine; decide, fun q4 h4 => ⟨.tuple [rowsD rs', intsD es'], .tuple [rowsD rs, intsD es], .tup (SqT.of ((same_new h4) _ _ upd_same)) (.cons (hRa.mv (Kl.same ((s1921.trans (same_new h3)).trans (same_new h4)))) (.cons (hEa.mv (Kl.same ((s1921.trans (same_new h3)).trans (same_new h4)))) .nil)), .tup (SqT.of upd_same) (.cons (hR19.mv (Kl.same ((s1921.trans (same_new h3)).trans (same_new h4)))) (.cons (hE19.mv (Kl.same ((s1921.trans (same_new h3)).trans (same_new h4)))) .nil)), shaped_pair _ _, shaped_pair _ _, ?_⟩⟩⟩
              rw [eqv_pair]
              have s1922 := (s1921.trans (same_new (o := .tup [Ra, Ea]) h3)).trans (same_new (o := .tup [.ref r, .ref e]) h4)
              generalize L2.upd (L2.upd H21 q3 (.tup [Ra, Ea])) q4 (.tup [.ref r, .ref e]) = H22 at *
              refine ⟨_, rfl, rfl, _, rfl, ite2 (fun c1 => absurd c1 (by simp)) (fun _ => ?_)⟩
              have s1924 := s1922
              -- no states at all
              refine ⟨_, rfl, by show 0 ≤ sizeLine; decide, fun n1 hn1 => ⟨by show 0 ≤ sizeLine; decide, fun n2 hn2 => ⟨z, .ref n1, .ref n2, [], [], rfl, Or.inl (.lst (SqL.of ((same_new hn2) _ _ upd_same)) .nil), Or.inl (.lst (SqL.of upd_same) .nil), by omega, by decide, by decide, (fun r hr => nomatch hr), fun hk => absurd hk.2.1 (by decide), fun bk hbk H25 s25 => ?_⟩⟩⟩
              obtain rfl : bk = 0 := by
                rcases hbk with ⟨h, _⟩ | ⟨h, _⟩
                · exact absurd h (Nat.not_lt_zero _)
                · exact h
              refine ⟨rfl, _, rfl, ite2 (fun c1 => absurd c1 (by simp)) (fun _ => ?_)⟩
              have s1925 := s1924.trans (((same_new hn1).trans (same_new hn2)).trans s25)
              clear s25
              -- other letters
              have hzs : z.length ≤ sizeLine := Nat.le_of_lt (small1000 (by omega))
              refine ⟨⟨_, rfl⟩, _, rfl, fun D hDn => lc_it (walk_strS (z := Str.ofString "abcdefghij")) (fun j H26 => H26 D = some (.lst (((abc.take j).filter (fun x => decide (x ∉ TL.tl z))).map fun x => V.str (sg x))) ∧ Same H25 H26)
                ⟨upd_same, same_new hDn⟩ (fun _ _ _ _ => trivial) ?_ ?_⟩
              · rintro l x H26' H26 hl ⟨hD26, s26⟩ ⟨rfl, cc, hcc, rfl⟩
                obtain ⟨hlt, he⟩ := List.getElem?_eq_some_iff.mp hcc
                have et : abc.take (l + 1) = abc.take l ++ [cc] := by rw [← he]; exact take_more hlt
                refine ⟨rfl, _, rfl, _, rfl, cc, z, rfl, rfl, _, rfl, ite2 (fun c2 => ?_) (fun c2 => ?_)⟩
                · refine ⟨_, rfl, _, hD26, ?_, ?_, s26.put hDn⟩
                  · rw [List.length_map]
                    refine Nat.lt_of_le_of_lt (List.length_filter_le _ _) (Nat.lt_of_le_of_lt (List.length_take_le' _ _) ?_)
                    exact small1000 (by decide +kernel)
                  · rw [upd_same, et, List.filter_append, List.map_append]
                    have : decide (cc ∉ TL.tl z) = true := by simpa using c2
                    rw [List.filter_cons_of_pos (by simpa using this)]
                    rfl
                · refine ⟨?_, s26⟩
                  rw [hD26, et, List.filter_append]
                  have : ¬ decide (cc ∉ TL.tl z) = true := by simpa using c2
                  rw [List.filter_cons_of_neg (by simpa using this), List.filter_nil, List.append_nil]
              rintro H26 ⟨hD26, s26⟩
              rw [show (Str.ofString "abcdefghij").length = abc.length from rfl, List.take_length] at hD26
              refine ⟨_, rfl, _, _, rfl, ⟨hzs, rfl⟩, _, rfl, D, _, rfl, SqL.of hD26, fun S hS => ?_⟩
              rw [cutV_toN, ← List.map_take]
              have hmore := abc_more (z := TL.tl z)
              have lzt : (TL.tl z).length = z.length := (TL.len_tl z).symm
              have hne : ∃ cc rest, (abc.filter (fun x => decide (x ∉ TL.tl z))).take z.length = cc :: rest := by
                cases e : (abc.filter (fun x => decide (x ∉ TL.tl z))).take z.length with
                | nil =>
                  have hh := congrArg List.length e
                  rw [List.length_take] at hh
                  have hh : min z.length (abc.filter (fun x => decide (x ∉ TL.tl z))).length = 0 := hh
                  omega
                | cons a r => exact ⟨a, r, rfl⟩
              have hnot : ∀ y ∈ (abc.filter (fun x => decide (x ∉ TL.tl z))).take z.length, y ∉ TL.tl z := fun y hy => by
                simpa using (List.mem_filter.mp (List.mem_of_mem_take hy)).2
              have hlen' : ((abc.filter (fun x => decide (x ∉ TL.tl z))).take z.length).length = z.length := by rw [List.length_take]; omega
              generalize (abc.filter (fun x => decide (x ∉ TL.tl z))).take z.length = cs at *
              have ej : TL.tl (Txt.join (Str.ofString "") (cs.map sg)) = cs := join_sg cs
              have el : (Txt.join (Str.ofString "") (cs.map sg)).length = z.length := by rw [TL.len_tl, ej, hlen']
              have en : Txt.join (Str.ofString "") (cs.map sg) ≠ z := fun q => by
                obtain ⟨cc, rest, hcr⟩ := hne
                have : cc ∈ cs := by rw [hcr]; exact List.mem_cons_self ..
                refine hnot cc this ?_
                rw [← q, ej]; exact this
              refine ⟨_, S, cs.map sg, rfl, rfl, Or.inl (SqL.of (by rw [upd_same, List.map_map]; rfl)), ?_, ?_⟩
              · rw [sum_sg]
                show cs.length + (cs.map sg).length * 0 ≤ 16777216
                omega
              generalize Txt.join (Str.ofString "") (cs.map sg) = zz at *
              have s1927 := s1925.trans (s26.trans (same_new (o := .lst (cs.map fun x => V.str (sg x))) hS))
              refine ⟨_, rfl, _, rfl, _, rfl, fun y dy hy hdy ne2 => ?_⟩
              have hy' : (L2.upd (L2.upd H26 S (.lst (cs.map fun x => V.str (sg x)))) dy (.own y)) y = none := by rw [upd_ne ne2.symm]; exact hy
              have s27a := (same_new (o := .own y) hdy).trans (same_new (o := .ins C dy []) hy')
              have hokz : AllOk zz.length rs es := by rw [el]; exact hok
              refine ⟨y, dy, zz, .ref r, .ref e, rs, es, rfl, upd_same, Or.inl (hR19.mv (Kl.same (s1927.trans s27a))), Or.inl (hE19.mv (Kl.same (s1927.trans s27a))), by omega, by omega, by omega, (fun r hr => by have := hrow5 r hr; omega), fun _ H28 hC28 hk => ⟨rfl, ?_⟩, fun i hb => absurd hb (hokz.not_bad i)⟩
              have s1928 : Same H19' H28 := s1927.trans fun b u e => hk b u (s27a _ _ e) (ne_of_none e hy)
              obtain ⟨dy2, Ry2, Ey2, hoy2, _, _⟩ := id hC28
              obtain ⟨dx2, Rv2, Ev2, ho2, _, _⟩ := id hC19
              refine ⟨_, rfl, y, dy2, _, x, dx2, _, rfl, rfl, hoy2, s1928 _ _ ho2, y, .ref x, zz, rs, es, rfl, hC28, Or.inl ⟨x, z, rs, es, rfl, hC19.same s1928, fun H29 s29 => ⟨_, rfl, ite2 (fun c1 => absurd c1 (by simp [en])) (fun _ => ?_)⟩⟩⟩
              exact ⟨_, _, _, _, _, _, _, _, _, _, _, _, _, _, _, rfl, (pn19.same (s1928.trans s29)).mono (by omega)⟩
    · rintro σ H2 ⟨v2, v3, v4, v5, v6, v7, v8, v9, v10, v11, v12, v13, v14, v15, v16, rfl, hp2⟩
      exact k H2
end
end Vf
set_option Elab.async false
set_option linter.all false
set_option maxRecDepth 100000
set_option maxHeartbeats 4000000
namespace Vf
open PySem L2 PyProof.Rows
theorem kit_self {K : PySem.W.Frag} (C : Addr) : PySem.W.kitOne K (.ref C) (.ref C) = some true := by
  unfold PySem.W.kitOne
  rw [if_pos (by simp)]
theorem kit_tupC {K : PySem.W.Frag} {C : Addr} (h : PySem.W.hasDictIn K C = true) (ht : PySem.W.typeIn K (.ref C) = some (.type "type")) (hs : PySem.W.subIn K (.type "tuple") (.ref C) = some false) : PySem.W.kitOne K (.type "tuple") (.ref C) = some false := by
  have hc : (PySem.W.clsIn K C).isSome = true := by
    unfold PySem.W.hasDictIn at h
    cases e : PySem.W.clsIn K C with
    | none => rw [e] at h; cases h
    | some c => rfl
  unfold PySem.W.kitOne
  rw [if_neg (by intro q; have := beq_iff_eq.mp q; cases this)]
  have e2 : ((PySem.W.clsIn K C).isSome && PySem.W.typeIn K (.ref C) == some (.type "type")) = true := by rw [hc, ht] <;> rfl
  show (if ((PySem.W.clsIn K C).isSome && PySem.W.typeIn K (.ref C) == some (.type "type")) = true then PySem.W.subIn K (.type "tuple") (.ref C) else none) = some false
  rw [if_pos e2]
  exact hs
theorem all_mk {l : PySem.W.OpenLaw} {w : World} {K : PySem.W.Frag} {h : Heap} {mg : Str → Option Value} {fa fD fP fB fPen fLe fCo fBe fWr fRe fCS fLaw fI fLn fEq fBC C CB B : Addr} {nm q : Str} {N : Addr} {bs : List Value} {sn : List Str} {sub : List Value} {ab : Bool} {col : Option Bool} {dd : Option Addr} {m0 m1 m2 m3 m5 : Option Value} (X : K.In h) (G : h.Ns mainGlobals mg) (hfa : mg "law" = some (.ref fa))
    {odD anD : Option Addr} {slD : Array (Option Value)} {ocD kVD dcD pmD cdD ctD : Value} {odP anP : Option Addr} {slP : Array (Option Value)} {ocP kVP dcP pmP cdP ctP : Value} {odB anB : Option Addr} {slB : Array (Option Value)} {ocB kVB dcB pmB cdB ctB : Value} {odPen anPen : Option Addr} {slPen : Array (Option Value)} {ocPen kVPen dcPen pmPen cdPen ctPen : Value} {odLe anLe : Option Addr} {slLe : Array (Option Value)} {ocLe kVLe dcLe pmLe cdLe ctLe : Value} {odCo anCo : Option Addr} {slCo : Array (Option Value)} {ocCo kVCo dcCo pmCo cdCo ctCo : Value} {odBe anBe : Option Addr} {slBe : Array (Option Value)} {ocBe kVBe dcBe pmBe cdBe ctBe : Value} {odWr anWr : Option Addr} {slWr : Array (Option Value)} {ocWr kVWr dcWr pmWr cdWr ctWr : Value} {odRe anRe : Option Addr} {slRe : Array (Option Value)} {ocRe kVRe dcRe pmRe cdRe ctRe : Value} {odCS anCS : Option Addr} {slCS : Array (Option Value)} {ocCS kVCS dcCS pmCS cdCS ctCS : Value} {odLaw anLaw : Option Addr} {slLaw : Array (Option Value)} {ocLaw kVLaw dcLaw pmLaw cdLaw ctLaw : Value} {odI anI : Option Addr} {slI : Array (Option Value)} {ocI kVI dcI pmI cdI ctI : Value} {odLn anLn : Option Addr} {slLn : Array (Option Value)} {ocLn kVLn dcLn pmLn cdLn ctLn : Value} {odEq anEq : Option Addr} {slEq : Array (Option Value)} {ocEq kVEq dcEq pmEq cdEq ctEq : Value} {odBC anBC : Option Addr} {slBC : Array (Option Value)} {ocBC kVBC dcBC pmBC cdBC ctBC : Value}
    (aD : PySem.W.nsIn K mainGlobals "_law_draw" = some (some (.ref fD)))
    (lD : K.lookup fD = some ⟨ocD, odD, .func (PySem.W.fnOf "_law_draw" "_law_draw" (defArgs s__law_draw) (defBody s__law_draw) (defScope s__law_draw) .none kVD dcD pmD anD cdD ctD), slD⟩) (cD : PySem.W.codeIn K cdD "_law_draw" = true) (kD : PySem.W.keepIn K (.ref fD) = true)
    (aP : PySem.W.nsIn K mainGlobals "_law_pick" = some (some (.ref fP)))
    (lP : K.lookup fP = some ⟨ocP, odP, .func (PySem.W.fnOf "_law_pick" "_law_pick" (defArgs s__law_pick) (defBody s__law_pick) (defScope s__law_pick) .none kVP dcP pmP anP cdP ctP), slP⟩) (cP : PySem.W.codeIn K cdP "_law_pick" = true) (kP : PySem.W.keepIn K (.ref fP) = true)
    (aB : PySem.W.nsIn K mainGlobals "_law_bits" = some (some (.ref fB)))
    (lB : K.lookup fB = some ⟨ocB, odB, .func (PySem.W.fnOf "_law_bits" "_law_bits" (defArgs s__law_bits) (defBody s__law_bits) (defScope s__law_bits) .none kVB dcB pmB anB cdB ctB), slB⟩) (cB : PySem.W.codeIn K cdB "_law_bits" = true) (kB : PySem.W.keepIn K (.ref fB) = true)
    (aPen : PySem.W.nsIn K mainGlobals "_law_pen" = some (some (.ref fPen)))
    (lPen : K.lookup fPen = some ⟨ocPen, odPen, .func (PySem.W.fnOf "_law_pen" "_law_pen" (defArgs s__law_pen) (defBody s__law_pen) (defScope s__law_pen) .none kVPen dcPen pmPen anPen cdPen ctPen), slPen⟩) (cPen : PySem.W.codeIn K cdPen "_law_pen" = true) (kPen : PySem.W.keepIn K (.ref fPen) = true)
    (aLe : PySem.W.nsIn K mainGlobals "_law_letters" = some (some (.ref fLe)))
    (lLe : K.lookup fLe = some ⟨ocLe, odLe, .func (PySem.W.fnOf "_law_letters" "_law_letters" (defArgs s__law_letters) (defBody s__law_letters) (defScope s__law_letters) .none kVLe dcLe pmLe anLe cdLe ctLe), slLe⟩) (cLe : PySem.W.codeIn K cdLe "_law_letters" = true) (kLe : PySem.W.keepIn K (.ref fLe) = true)
    (aCo : PySem.W.nsIn K mainGlobals "_law_code" = some (some (.ref fCo)))
    (lCo : K.lookup fCo = some ⟨ocCo, odCo, .func (PySem.W.fnOf "_law_code" "_law_code" (defArgs s__law_code) (defBody s__law_code) (defScope s__law_code) .none kVCo dcCo pmCo anCo cdCo ctCo), slCo⟩) (cCo : PySem.W.codeIn K cdCo "_law_code" = true) (kCo : PySem.W.keepIn K (.ref fCo) = true)
    (aBe : PySem.W.nsIn K mainGlobals "_law_bent" = some (some (.ref fBe)))
    (lBe : K.lookup fBe = some ⟨ocBe, odBe, .func (PySem.W.fnOf "_law_bent" "_law_bent" (defArgs s__law_bent) (defBody s__law_bent) (defScope s__law_bent) .none kVBe dcBe pmBe anBe cdBe ctBe), slBe⟩) (cBe : PySem.W.codeIn K cdBe "_law_bent" = true) (kBe : PySem.W.keepIn K (.ref fBe) = true)
    (aWr : PySem.W.nsIn K mainGlobals "_law_wrong" = some (some (.ref fWr)))
    (lWr : K.lookup fWr = some ⟨ocWr, odWr, .func (PySem.W.fnOf "_law_wrong" "_law_wrong" (defArgs s__law_wrong) (defBody s__law_wrong) (defScope s__law_wrong) .none kVWr dcWr pmWr anWr cdWr ctWr), slWr⟩) (cWr : PySem.W.codeIn K cdWr "_law_wrong" = true) (kWr : PySem.W.keepIn K (.ref fWr) = true)
    (aRe : PySem.W.nsIn K mainGlobals "_law_refused" = some (some (.ref fRe)))
    (lRe : K.lookup fRe = some ⟨ocRe, odRe, .func (PySem.W.fnOf "_law_refused" "_law_refused" (defArgs s__law_refused) (defBody s__law_refused) (defScope s__law_refused) .none kVRe dcRe pmRe anRe cdRe ctRe), slRe⟩) (cRe : PySem.W.codeIn K cdRe "_law_refused" = true) (kRe : PySem.W.keepIn K (.ref fRe) = true)
    (aCS : PySem.W.nsIn K mainGlobals "check_states" = some (some (.ref fCS)))
    (lCS : K.lookup fCS = some ⟨ocCS, odCS, .func (PySem.W.fnOf "check_states" "check_states" (defArgs s_check_states) (defBody s_check_states) (defScope s_check_states) .none kVCS dcCS pmCS anCS cdCS ctCS), slCS⟩) (cCS : PySem.W.codeIn K cdCS "check_states" = true) (kCS : PySem.W.keepIn K (.ref fCS) = true)
    (aLaw : PySem.W.nsIn K mainGlobals "law" = some (some (.ref fLaw)))
    (lLaw : K.lookup fLaw = some ⟨ocLaw, odLaw, .func (PySem.W.fnOf "law" "law" (defArgs s_law) (defBody s_law) (defScope s_law) .none kVLaw dcLaw pmLaw anLaw cdLaw ctLaw), slLaw⟩) (cLaw : PySem.W.codeIn K cdLaw "law" = true) (kLaw : PySem.W.keepIn K (.ref fLaw) = true)
    (aI : PySem.W.findIn K (.ref C) "__init__" = some (some (.ref fI))) (iI : PySem.W.isFn K (.ref fI) = true)
    (lI : K.lookup fI = some ⟨ocI, odI, .func (PySem.W.fnOf "__init__" "Code.__init__" (defArgs s_Code___init__) (defBody s_Code___init__) (defScope s_Code___init__) .none kVI dcI pmI anI cdI ctI), slI⟩) (cI : PySem.W.codeIn K cdI "Code.__init__" = true) (kI : PySem.W.keepIn K (.ref fI) = true)
    (aLn : PySem.W.findIn K (.ref C) "__len__" = some (some (.ref fLn))) (iLn : PySem.W.isFn K (.ref fLn) = true)
    (lLn : K.lookup fLn = some ⟨ocLn, odLn, .func (PySem.W.fnOf "__len__" "Code.__len__" (defArgs s_Code___len__) (defBody s_Code___len__) (defScope s_Code___len__) .none kVLn dcLn pmLn anLn cdLn ctLn), slLn⟩) (cLn : PySem.W.codeIn K cdLn "Code.__len__" = true) (kLn : PySem.W.keepIn K (.ref fLn) = true)
    (aEq : PySem.W.findIn K (.ref C) "__eq__" = some (some (.ref fEq))) (iEq : PySem.W.isFn K (.ref fEq) = true)
    (lEq : K.lookup fEq = some ⟨ocEq, odEq, .func (PySem.W.fnOf "__eq__" "Code.__eq__" (defArgs s_Code___eq__) (defBody s_Code___eq__) (defScope s_Code___eq__) .none kVEq dcEq pmEq anEq cdEq ctEq), slEq⟩) (cEq : PySem.W.codeIn K cdEq "Code.__eq__" = true) (kEq : PySem.W.keepIn K (.ref fEq) = true)
    (aBC : PySem.W.findIn K (.ref CB) "__init__" = some (some (.ref fBC))) (iBC : PySem.W.isFn K (.ref fBC) = true)
    (lBC : K.lookup fBC = some ⟨ocBC, odBC, .func (PySem.W.fnOf "__init__" "BadCode.__init__" (defArgs s_BadCode___init__) (defBody s_BadCode___init__) (defScope s_BadCode___init__) .none kVBC dcBC pmBC anBC cdBC ctBC), slBC⟩) (cBC : PySem.W.codeIn K cdBC "BadCode.__init__" = true) (kBC : PySem.W.keepIn K (.ref fBC) = true)
    (z_int : PySem.W.nsIn K mainGlobals "int" = some none)
    (z_len : PySem.W.nsIn K mainGlobals "len" = some none)
    (z_list : PySem.W.nsIn K mainGlobals "list" = some none)
    (z_range : PySem.W.nsIn K mainGlobals "range" = some none)
    (z_sorted : PySem.W.nsIn K mainGlobals "sorted" = some none)
    (z_any : PySem.W.nsIn K mainGlobals "any" = some none)
    (z_tuple : PySem.W.nsIn K mainGlobals "tuple" = some none)
    (z_enumerate : PySem.W.nsIn K mainGlobals "enumerate" = some none)
    (z_min : PySem.W.nsIn K mainGlobals "min" = some none)
    (z_isinstance : PySem.W.nsIn K mainGlobals "isinstance" = some none)
    (cC : PySem.W.nsIn K mainGlobals "Code" = some (some (.ref C))) (cpg : PySem.W.plainGet K C Str.empty = true) (chd : PySem.W.hasDictIn K C = true) (cpo : PySem.W.plainOver K C = true) (csa : PySem.W.findIn K (.ref C) "__setattr__" = some (some (.builtin "object.__setattr__"))) (cmk : PySem.W.makesIn K C = true) (ckc : PySem.W.keepIn K (.ref C) = true)
    (cnL : PySem.W.findIn K (.ref C) "letters" = some none) (cnR : PySem.W.findIn K (.ref C) "rows" = some none) (cnE : PySem.W.findIn K (.ref C) "ends" = some none)
    (qa : PySem.W.findIn K (.ref C) "__class__" = some (some (.builtin "object.__class__"))) (qn : PySem.W.specialIn K (.builtin "object.__class__") "__get__" = some (some (.builtin "getset_descriptor.__get__"))) (qt : PySem.W.takesIn K (.builtin "object.__class__") = some true) (qm : PySem.W.mroIn K C (.type "object") = some true)
    (qy : PySem.W.typeIn K (.ref C) = some (.type "type")) (qs : PySem.W.subIn K (.type "tuple") (.ref C) = some false)
    (vC : PySem.W.nsIn K mainGlobals "BadCode" = some (some (.ref CB))) (vL : K.lookup CB = some (excClassObj nm q CB N bs [.ref B, .type "ValueError", .type "Exception", .type "BaseException", .type "object"] true sn sub ab col dd m0 m1 m2 m3 m5 "ValueError.__new__"))
    (vsa : PySem.W.findIn K (.ref CB) "__setattr__" = some (some (.builtin "object.__setattr__"))) (vex : PySem.W.subIn K (.ref CB) (.type "BaseException") = some true) (vty : PySem.W.typeIn K (.ref CB) = some (.type "type")) (vkc : PySem.W.keepIn K (.ref CB) = true)
    (vtI : PySem.W.typeIn K (.ref fBC) = some (.type "function")) (vnf : PySem.W.findIn K (.ref CB) "state" = some none)
    (vga : PySem.W.findIn K (.ref CB) "__getattribute__" = some (some (.builtin "BaseException.__getattribute__"))) (vgg : PySem.W.findIn K (.ref CB) "__getattr__" = some none) (vhd : PySem.W.hasDictIn K CB = true) (vss : PySem.W.subIn K (.ref CB) (.ref CB) = some true)
    (bC : PySem.W.nsIn K mainGlobals "CodeError" = some (some (.ref B))) (bs0 : PySem.W.specialIn K (.ref B) "__getattribute__" = some (some (.builtin "type.__getattribute__"))) (br : PySem.W.readsIn K B (.type "type") = true)
    (bv : PySem.W.findCls K (.ref B) (.type "type") "__init__" = some (.val (.builtin "ValueError.__init__"))) :
    ∃ fd : FuncData, (∀ (s : Shared) (v : Value), BindsTo s fd ⟨[v], []⟩ [("_law_script", v)]) ∧ ∀ base : Heap, K.In base → base.Ns mainGlobals mg → FnOk l.prog w K mg base CX0 7 fa fd ["_law_script"] (spLaw K) := by
  have e := hfa.symm.trans (PySem.W.mg_of X G aLaw)
  cases e
  have T : TxtX K mg fD fP fB C fCS B CB fBC fEq fLn fPen fLe fCo fBe fWr fRe :=
    { int := PySem.W.mg_none_of X G z_int, len := PySem.W.mg_none_of X G z_len, list := PySem.W.mg_none_of X G z_list, range := PySem.W.mg_none_of X G z_range, sorted := PySem.W.mg_none_of X G z_sorted,
      any := PySem.W.mg_none_of X G z_any, tuple := PySem.W.mg_none_of X G z_tuple, enumerate := PySem.W.mg_none_of X G z_enumerate, min := PySem.W.mg_none_of X G z_min, isinstance := PySem.W.mg_none_of X G z_isinstance,
      m_law_draw := PySem.W.mg_of X G aD, k_law_draw := kD, m_law_pick := PySem.W.mg_of X G aP, k_law_pick := kP, m_law_bits := PySem.W.mg_of X G aB, k_law_bits := kB,
      cl := ⟨cpg, chd, cpo, csa⟩, nL := cnL, nR := cnR, nE := cnE, mgCode := PySem.W.mg_of X G cC, mcheck_states := PySem.W.mg_of X G aCS, kcheck_states := kCS,
      base := ⟨PySem.W.mg_of X G bC, bs0, br, bv⟩,
      bc := ⟨⟨⟨nm, q, N, bs, _, sn, sub, ab, col, dd, m0, m1, m2, m3, m5, vL, by rfl⟩, vsa, vex, vty, vkc⟩, PySem.W.mg_of X G vC, aBC, vtI, vnf, ⟨vga, vgg, vex, vhd⟩⟩,
      ca := qa, cn := qn, ct := qt, cm := qm, kc := kit_self C, kt := kit_tupC chd qy qs, tsub := qs, eqs := aEq, eqf := iEq, lns := aLn, lnf := iLn,
      m_law_pen := PySem.W.mg_of X G aPen, k_law_pen := kPen, m_law_letters := PySem.W.mg_of X G aLe, k_law_letters := kLe, m_law_code := PySem.W.mg_of X G aCo, k_law_code := kCo,
      m_law_bent := PySem.W.mg_of X G aBe, k_law_bent := kBe, m_law_wrong := PySem.W.mg_of X G aWr, k_law_wrong := kWr, m_law_refused := PySem.W.mg_of X G aRe, k_law_refused := kRe,
      te := PySem.W.exm_ref vex vhd vty vss }
  have FD := fun_mk (st := s__law_draw) lD cD kD
  have bD := FD.binds (ps := P__law_draw) fun _ _ _ _ _ _ us hl => match us, hl with | [_, _], _ => rfl
  have FP := fun_mk (st := s__law_pick) lP cP kP
  have bP := FP.binds (ps := P__law_pick) fun _ _ _ _ _ _ us hl => match us, hl with | [_, _], _ => rfl
  have FB := fun_mk (st := s__law_bits) lB cB kB
  have bB := FB.binds (ps := P__law_bits) fun _ _ _ _ _ _ us hl => match us, hl with | [_], _ => rfl
  have FPen := fun_mk (st := s__law_pen) lPen cPen kPen
  have bPen := FPen.binds (ps := P__law_pen) fun _ _ _ _ _ _ us hl => match us, hl with | [_], _ => rfl
  have FLe := fun_mk (st := s__law_letters) lLe cLe kLe
  have bLe := FLe.binds (ps := P__law_letters) fun _ _ _ _ _ _ us hl => match us, hl with | [_, _], _ => rfl
  have FCo := fun_mk (st := s__law_code) lCo cCo kCo
  have bCo := FCo.binds (ps := P__law_code) fun _ _ _ _ _ _ us hl => match us, hl with | [_, _, _], _ => rfl
  have FBe := fun_mk (st := s__law_bent) lBe cBe kBe
  have bBe := FBe.binds (ps := P__law_bent) fun _ _ _ _ _ _ us hl => match us, hl with | [_, _, _], _ => rfl
  have FWr := fun_mk (st := s__law_wrong) lWr cWr kWr
  have bWr := FWr.binds (ps := P__law_wrong) fun _ _ _ _ _ _ us hl => match us, hl with | [_, _, _], _ => rfl
  have FRe := fun_mk (st := s__law_refused) lRe cRe kRe
  have bRe := FRe.binds (ps := P__law_refused) fun _ _ _ _ _ _ us hl => match us, hl with | [_, _, _], _ => rfl
  have FCS := fun_mk (st := s_check_states) lCS cCS kCS
  have bCS := FCS.binds (ps := P_check_states) fun _ _ _ _ _ _ us hl => match us, hl with | [_, _, _], _ => rfl
  have FLaw := fun_mk (st := s_law) lLaw cLaw kLaw
  have FI := fun_mk (st := s_Code___init__) lI cI kI
  have bI := FI.binds (ps := P_Code___init__) fun _ _ _ _ _ _ us hl => match us, hl with | [_, _, _, _], _ => rfl
  have FLn := fun_mk (st := s_Code___len__) lLn cLn kLn
  have bLn := FLn.binds (ps := P_Code___len__) fun _ _ _ _ _ _ us hl => match us, hl with | [_], _ => rfl
  have FEq := fun_mk (st := s_Code___eq__) lEq cEq kEq
  have bEq := FEq.binds (ps := P_Code___eq__) fun _ _ _ _ _ _ us hl => match us, hl with | [_, _], _ => rfl
  have FBC := fun_mk (st := s_BadCode___init__) lBC cBC kBC
  have bBC := FBC.binds (ps := P_BadCode___init__) fun _ _ _ _ _ _ us hl => match us, hl with | [_, _], _ => rfl
  exact ⟨PySem.W.fnOf "law" "law" (defArgs s_law) (defBody s_law) (defScope s_law) .none kVLaw dcLaw pmLaw anLaw cdLaw ctLaw, fun s v => .of_eq rfl, fun base _ _ => ok_law FLaw T FD bD FP bP FB bB FI bI ⟨cmk, aI, iI, ckc⟩ FCS bCS FBC bBC FLn bLn FEq bEq FPen bPen FLe bLe FCo bCo FBe bBe FWr bWr FRe bRe⟩
theorem walk {l : PySem.W.OpenLaw} {q : Program} {loose : List Str} {XP : (Str → Option Value) → Heap → Prop} {YP : World → Heap → Prop} {d : DefRec} {K : Params → PySem.W.Frag} (hn : l.most = some 63) (hdf : d.params.defaults = [])
    (hY : ∀ (w : World) (h : Heap), YP w h → (K w.params).In h)
    (F : ∀ (w : World) (mg : Str → Option Value) (fa : Addr) (h : Heap), (K w.params).In h → h.Ns mainGlobals mg → mg d.name = some (.ref fa) →
      ∃ fd : FuncData, (∀ (s : Shared) (u : Value), BindsTo s fd ⟨[u], []⟩ [("_law_script", u)]) ∧ ∀ base : Heap, (K w.params).In base → base.Ns mainGlobals mg → FnOk l.prog w (K w.params) mg base CX0 7 fa fd ["_law_script"] (spLaw (K w.params))) :
    PySem.W.WalkO q loose XP YP l.row.toRowW d [] (fun f vs => PySem.call f vs) :=
  L2.walk_of (n := 63) (k := 7) (x := "_law_script") (CX := fun _ => CX0) (sp := fun w => spLaw (K w.params)) hn (by decide) hdf ⟨rfl, by decide, by decide⟩ hY F (fun _ _ a ns hl _ hS => ⟨a, ns, rfl, hS, hl, fun _ => rfl⟩) fun _ _ _ _ _ z => z
end Vf
open PySem PySem.W PyProof.Rows
set_option maxRecDepth 100000 in
set_option maxHeartbeats 0 in
theorem PySem.Challenge.cw_bestcodes_k02_codes_holds : PySem.Challenge.rw_bestcodes_k02_codes.Holds := by
  w_on; o_law; k_head; (case hw => w_witness2)
  k_fill
  refine Vf.walk (l := PySem.Challenge.rw_bestcodes_k02_codes) rfl rfl (fun w h Y => PySem.W.kIn_of Y) ?F
  case F =>
    intro w mg fa h KX G hmg
    refine' Vf.all_mk KX G hmg ?aD ?lD ?cD ?kD ?aP ?lP ?cP ?kP ?aB ?lB ?cB ?kB ?aPen ?lPen ?cPen ?kPen ?aLe ?lLe ?cLe ?kLe ?aCo ?lCo ?cCo ?kCo ?aBe ?lBe ?cBe ?kBe ?aWr ?lWr ?cWr ?kWr ?aRe ?lRe ?cRe ?kRe ?aCS ?lCS ?cCS ?kCS ?aLaw ?lLaw ?cLaw ?kLaw ?aI ?iI ?lI ?cI ?kI ?aLn ?iLn ?lLn ?cLn ?kLn ?aEq ?iEq ?lEq ?cEq ?kEq ?aBC ?iBC ?lBC ?cBC ?kBC ?z_int ?z_len ?z_list ?z_range ?z_sorted ?z_any ?z_tuple ?z_enumerate ?z_min ?z_isinstance ?cC ?cpg ?chd ?cpo ?csa ?cmk ?ckc ?cnL ?cnR ?cnE ?qa ?qn ?qt ?qm ?qy ?qs ?vC ?vL ?vsa ?vex ?vty ?vkc ?vtI ?vnf ?vga ?vgg ?vhd ?vss ?bC ?bs0 ?br ?bv
    (case cC => k_is)
    (case vC => k_is)
    (case bC => k_is)
    (case aD => k_is)
    (case lD => k_is)
    (case cD => k_is)
    (case kD => k_is)
    (case aP => k_is)
    (case lP => k_is)
    (case cP => k_is)
    (case kP => k_is)
    (case aB => k_is)
    (case lB => k_is)
    (case cB => k_is)
    (case kB => k_is)
    (case aPen => k_is)
    (case lPen => k_is)
    (case cPen => k_is)
    (case kPen => k_is)
    (case aLe => k_is)
    (case lLe => k_is)
    (case cLe => k_is)
    (case kLe => k_is)
    (case aCo => k_is)
    (case lCo => k_is)
    (case cCo => k_is)
    (case kCo => k_is)
    (case aBe => k_is)
    (case lBe => k_is)
    (case cBe => k_is)
    (case kBe => k_is)
    (case aWr => k_is)
    (case lWr => k_is)
    (case cWr => k_is)
    (case kWr => k_is)
    (case aRe => k_is)
    (case lRe => k_is)
    (case cRe => k_is)
    (case kRe => k_is)
    (case aCS => k_is)
    (case lCS => k_is)
    (case cCS => k_is)
    (case kCS => k_is)
    (case aLaw => k_is)
    (case lLaw => k_is)
    (case cLaw => k_is)
    (case kLaw => k_is)
    (case aI => k_is)
    (case iI => k_is)
    (case lI => k_is)
    (case cI => k_is)
    (case kI => k_is)
    (case aLn => k_is)
    (case iLn => k_is)
    (case lLn => k_is)
    (case cLn => k_is)
    (case kLn => k_is)
    (case aEq => k_is)
    (case iEq => k_is)
    (case lEq => k_is)
    (case cEq => k_is)
    (case kEq => k_is)
    (case aBC => k_is)
    (case iBC => k_is)
    (case lBC => k_is)
    (case cBC => k_is)
    (case kBC => k_is)
    (case z_int => k_is)
    (case z_len => k_is)
    (case z_list => k_is)
    (case z_range => k_is)
    (case z_sorted => k_is)
    (case z_any => k_is)
    (case z_tuple => k_is)
    (case z_enumerate => k_is)
    (case z_min => k_is)
    (case z_isinstance => k_is)
    (case cpg => k_is)
    (case chd => k_is)
    (case cpo => k_is)
    (case csa => k_is)
    (case cmk => k_is)
    (case ckc => k_is)
    (case cnL => k_is)
    (case cnR => k_is)
    (case cnE => k_is)
    (case qa => k_is)
    (case qn => k_is)
    (case qt => k_is)
    (case qm => k_is)
    (case qy => k_is)
    (case qs => k_is)
    (case vL => k_is)
    (case vsa => k_is)
    (case vex => k_is)
    (case vty => k_is)
    (case vkc => k_is)
    (case vtI => k_is)
    (case vnf => k_is)
    (case vga => k_is)
    (case vgg => k_is)
    (case vhd => k_is)
    (case vss => k_is)
    (case bs0 => k_is)
    (case br => k_is)
    (case bv => k_is)
#print axioms PySem.Challenge.cw_bestcodes_k02_codes_holds
