import PyProof.Rows.All
import Wide.All
import OpenK.AllK
import Wide.FinOn
import HandS.ForMost
import HandS.Wide
import HandS.ExcInit
import HandS.ExcField
import HandS.WordsExc
import HandS.Style
import KE.GoesEnum
import HandS.Walk
import HandS.ExcOwn
import HandS.Exc
import HandS.Replace
import HandS.IsInst
import HandS.ExcIs
import PySem.Challenge.RW_bestcodes_k03_lengths
set_option Elab.async false
set_option linter.all false
set_option maxRecDepth 100000
set_option maxHeartbeats 4000000
/-! the pen -/
namespace Vf
open PySem L2 PyProof.Rows
theorem nCA : ¬ (("cells" : Str) = "at") := by decide +kernel
theorem nCL : ¬ (("cells" : Str) = "left") := by decide +kernel
theorem nAL : ¬ (("at" : Str) = "left") := by decide +kernel
theorem nAC : ¬ (("at" : Str) = "cells") := by decide +kernel
theorem nLC : ¬ (("left" : Str) = "cells") := by decide +kernel
theorem nLA : ¬ (("left" : Str) = "at") := by decide +kernel
def penKV (c : Addr) (a l : Int) : List (Key × V) := [(Sum.inr "cells", .ref c), (Sum.inr "at", .int a), (Sum.inr "left", .int l)]
theorem pen_cells (c : Addr) (a l : Int) : valV (penKV c a l) (Sum.inr "cells") = some (.ref c) := by
  simp [valV, penKV]
theorem pen_at (c : Addr) (a l : Int) : valV (penKV c a l) (Sum.inr "at") = some (.int a) := by
  simp [valV, penKV, nCA]
theorem pen_left (c : Addr) (a l : Int) : valV (penKV c a l) (Sum.inr "left") = some (.int l) := by
  simp [valV, penKV, nCL, nAL]
theorem pen_putAt (c : Addr) (a l b : Int) : putK (penKV c a l) (Sum.inr "at") (.int b) = penKV c b l := by
  simp [putK, penKV, nCA, nLA]
theorem pen_putLeft (c : Addr) (a l b : Int) : putK (penKV c a l) (Sum.inr "left") (.int b) = penKV c a b := by
  simp [putK, penKV, nCL, nAL]
theorem pen_merge (c : Addr) (a l : Int) : mergeK [] (penKV c a l) = penKV c a l := by
  simp [mergeK, penKV, putK, nCA, nCL, nAL]
/-- what a call may leave of the heap: all but the pen at p -/
def Kp (p : Addr) (H H' : Hp) : Prop := ∀ b o, H b = some o → b ≠ p → H' b = some o
theorem Kp.refl (p : Addr) (H : Hp) : Kp p H H := fun _ _ h _ => h
theorem Kp.trans {p : Addr} {H H1 H2 : Hp} (a : Kp p H H1) (b : Kp p H1 H2) : Kp p H H2 := fun c o h n => b c o (a c o h n) n
theorem Kp.of {p : Addr} {H H1 : Hp} (s : Same H H1) : Kp p H H1 := fun b o h _ => s b o h
/-- the pen: a dict of the script's cells, the place, what is left -/
def PenO (H : Hp) (p c : Addr) (a l : Int) (cs : List Int) : Prop := H p = some (.dK (penKV c a l)) ∧ H c = some (.lst (cs.map V.int)) ∧ cs.length ≤ 63 ∧ 0 ≤ a ∧ 0 ≤ l
def Pen (H : Hp) (p c : Addr) (n : Nat) : Prop := ∃ a l cs, PenO H p c a l cs ∧ a ≤ n
theorem PenO.ne {H : Hp} {p c : Addr} {a l : Int} {cs : List Int} (P : PenO H p c a l cs) : c ≠ p := ne_of P.2.1 P.1 (by intro z; cases z)
theorem Pen.mono {H : Hp} {p c : Addr} {n m : Nat} (P : Pen H p c n) (h : n ≤ m) : Pen H p c m := by
  obtain ⟨a, l, cs, q, r⟩ := P
  exact ⟨a, l, cs, q, by omega⟩
theorem Pen.same {H H' : Hp} {p c : Addr} {n : Nat} (P : Pen H p c n) (s : Same H H') : Pen H' p c n := by
  obtain ⟨a, l, cs, ⟨q1, q2, q3⟩, r⟩ := P
  exact ⟨a, l, cs, ⟨s _ _ q1, s _ _ q2, q3⟩, r⟩
theorem Pen.dk {H : Hp} {p c : Addr} {n : Nat} (P : Pen H p c n) : ∃ kvs, H p = some (.dK kvs) := by
  obtain ⟨a, l, cs, ⟨q1, _⟩, _⟩ := P
  exact ⟨_, q1⟩
/-- another object is written -/
theorem Pen.put {H : Hp} {p c r : Addr} {n : Nat} {o : HO} (P : Pen H p c n) (h1 : r ≠ p) (h2 : r ≠ c) : Pen (upd H r o) p c n := by
  obtain ⟨a, l, cs, ⟨q1, q2, q3⟩, z⟩ := P
  exact ⟨a, l, cs, ⟨by rw [upd_ne h1.symm]; exact q1, by rw [upd_ne h2.symm]; exact q2, q3⟩, z⟩
theorem Pen.new {H : Hp} {p c r : Addr} {n : Nat} (P : Pen H p c n) (h : H r = none) : r ≠ p ∧ r ≠ c := by
  obtain ⟨a, l, cs, ⟨q1, q2, q3⟩, z⟩ := P
  exact ⟨(ne_of_none q1 h).symm, (ne_of_none q2 h).symm⟩
theorem Kp.free {p c l : Addr} {n : Nat} {H H' : Hp} (k : Kp p H H') (P : Pen H' p c n) (h : H' l = none) : H l = none := by
  cases e : H l with
  | none => rfl
  | some o =>
    have := k l o e (P.new h).1
    rw [h] at this; cases this
theorem Kp.put {p r : Addr} {H H' : Hp} {o : HO} (k : Kp p H H') (h : H r = none) : Kp p H (upd H' r o) := fun b u e n => by
  rw [upd_ne (ne_of_none e h)]
  exact k b u e n
/-- a new object beside -/
theorem same_new {H : Hp} {a : Addr} {o : HO} (h : H a = none) : Same H (upd H a o) := fun b u e => by
  rw [upd_ne (ne_of_none e h)]
  exact e
theorem Same.upd {H H' : Hp} {a : Addr} {o : HO} (s : Same H H') (h : H a = none) : Same H (upd H' a o) := fun b u e => by
  rw [upd_ne (ne_of_none e h)]
  exact s b u e
theorem kp_upd {H : Hp} {p : Addr} {o : HO} : Kp p H (L2.upd H p o) := fun b u e n => by
  rw [upd_ne n]
  exact e
theorem dget_left {H : Hp} {p c : Addr} {a l : Int} (h : H p = some (.dK (penKV c a l))) : DGet H p (.str "left") (some (.int l)) := by
  have := DGet.k (k := Sum.inr "left") h
  rw [pen_left] at this
  exact this
theorem dget_at {H : Hp} {p c : Addr} {a l : Int} (h : H p = some (.dK (penKV c a l))) : DGet H p (.str "at") (some (.int a)) := by
  have := DGet.k (k := Sum.inr "at") h
  rw [pen_at] at this
  exact this
theorem dget_cells {H : Hp} {p c : Addr} {a l : Int} (h : H p = some (.dK (penKV c a l))) : DGet H p (.str "cells") (some (.ref c)) := by
  have := DGet.k (k := Sum.inr "cells") h
  rw [pen_cells] at this
  exact this
theorem dput_left {H : Hp} {p c : Addr} {a l b : Int} (h : H p = some (.dK (penKV c a l))) : DPut H p (.str "left") (.int b) (L2.upd H p (.dK (penKV c a b))) := by
  have := DPut.k (k := Sum.inr "left") (v := .int b) h (by show 3 < sizeLine; decide)
  rw [pen_putLeft] at this
  exact this
theorem dput_at {H : Hp} {p c : Addr} {a l b : Int} (h : H p = some (.dK (penKV c a l))) : DPut H p (.str "at") (.int b) (L2.upd H p (.dK (penKV c b l))) := by
  have := DPut.k (k := Sum.inr "at") (v := .int b) h (by show 3 < sizeLine; decide)
  rw [pen_putAt] at this
  exact this
theorem dp_ints (K : PySem.W.Frag) {H : Hp} {c : Addr} {cs : List Int} (h : H c = some (.lst (cs.map V.int))) : Dp K H (.ref c) (.list (cs.map PyData.int)) := by
  refine .lst (SqL.of h) ?_
  clear h
  induction cs with
  | nil => exact .nil
  | cons x r ih => exact .cons (.int x) ih
theorem eqv_ints_nil (cs : List Int) : PyData.eqv (.list (cs.map PyData.int)) (.list []) = cs.isEmpty := by
  cases cs with
  | nil => simp [PyData.eqv, PyData.eqvAll]
  | cons x r => simp [PyData.eqv, PyData.eqvAll]
theorem shaped_nil : SeqAt.shaped (.list []) = true := PySem.W.shaped_ints []
theorem fmod_bounds {x m : Int} (h : 0 < m) : 0 ≤ x.fmod m ∧ x.fmod m < m := by
  rw [Int.fmod_eq_emod_of_nonneg x (Int.le_of_lt h)]
  exact ⟨Int.emod_nonneg _ (by omega), Int.emod_lt_of_pos _ h⟩
theorem log_lt {m : Int} (h0 : 0 < m) (h : m < 2 ^ 200) : m.natAbs.log2 < 9000 := by
  have : m.natAbs < 2 ^ 200 := by omega
  exact Nat.lt_of_lt_of_le (PySem.Flt.log2_lt_of (by decide) this) (by decide)
end Vf
set_option Elab.async false
set_option linter.all false
set_option maxRecDepth 100000
set_option maxHeartbeats 4000000
/-! texts of one sign, letters -/
namespace Vf
open PySem L2 PyProof.Rows
/-- a text of one sign -/
def sg (c : Nat) : Str := ⟨#[c]⟩
theorem sg_tl (c : Nat) : TL.tl (sg c) = [c] := rfl
theorem sg_inj {c d : Nat} (h : sg c = sg d) : c = d := by
  have : TL.tl (sg c) = TL.tl (sg d) := by rw [h]
  rw [sg_tl, sg_tl] at this
  exact List.cons.inj this |>.1
theorem joinL_sg : ∀ cs : List Nat, TL.joinL [] ((cs.map sg).map TL.tl) = cs
  | [] => rfl
  | [c] => rfl
  | c :: d :: r => by
    have ih := joinL_sg (d :: r)
    show [c] ++ ([] ++ TL.joinL [] (((d :: r).map sg).map TL.tl)) = c :: d :: r
    rw [ih]; rfl
theorem join_sg (cs : List Nat) : TL.tl (Txt.join Str.empty (cs.map sg)) = cs := by
  rw [TL.join_eq, TL.tl_join]
  exact joinL_sg cs
theorem sum_sg (cs : List Nat) : ((cs.map sg).map (·.length)).sum = cs.length := by
  induction cs with
  | nil => rfl
  | cons c r ih =>
    simp only [List.map_cons, List.sum_cons, ih, List.length_cons]
    show 1 + r.length = r.length + 1
    omega
/-- what is a permutation of texts of one sign, is such -/
theorem perm_sg : ∀ {ys : List Str} {cs : List Nat}, ys.Perm (cs.map sg) → ∃ ds : List Nat, ys = ds.map sg ∧ ds.Perm cs := by
  intro ys cs h
  have hall : ∀ y ∈ ys, ∃ c, y = sg c := fun y hy => by
    obtain ⟨c, _, e⟩ := List.mem_map.mp (h.mem_iff.mp hy)
    exact ⟨c, e.symm⟩
  have : ∃ ds : List Nat, ys = ds.map sg := by
    clear h
    induction ys with
    | nil => exact ⟨[], rfl⟩
    | cons y r ih =>
      obtain ⟨c, e⟩ := hall y (List.mem_cons_self ..)
      obtain ⟨ds, e2⟩ := ih fun z hz => hall z (List.mem_cons_of_mem _ hz)
      exact ⟨c :: ds, by rw [e, e2]; rfl⟩
  obtain ⟨ds, e⟩ := this
  refine ⟨ds, e, ?_⟩
  rw [e] at h
  have g : ∀ l : List Nat, (l.map sg).map (fun s => s.cps.toList.headD 0) = l := fun l => by
    rw [List.map_map]
    exact List.map_id'' (fun c => rfl) l
  have := h.map (fun s : Str => s.cps.toList.headD 0)
  rw [g, g] at this
  exact this
theorem rising_sg : ∀ (cs : List Nat) (p : Nat), PyProof.Rows.risingS (sg p) (cs.map sg) = true → (p :: cs).Pairwise (· ≤ ·)
  | [], p, _ => List.pairwise_singleton _ _
  | c :: r, p, h => by
    have h' : (!PySem.Spec.ltCps (sg c).cps.toList (sg p).cps.toList && PyProof.Rows.risingS (sg c) (r.map sg)) = true := h
    rw [Bool.and_eq_true] at h'
    have ih := rising_sg r c h'.2
    have hpc : p ≤ c := by
      have h1 := h'.1
      have e : PySem.Spec.ltCps (sg c).cps.toList (sg p).cps.toList = PySem.Spec.ltCps [c] [p] := rfl
      rw [e] at h1
      by_cases q : c < p
      · exfalso
        simp [PySem.Spec.ltCps, q] at h1
      · omega
    refine List.pairwise_cons.mpr ⟨fun d hd => ?_, ih⟩
    rcases List.mem_cons.mp hd with e | hd
    · omega
    · have := (List.pairwise_cons.mp ih).1 d hd
      omega
theorem sorted_sg {cs : List Nat} (h : PyProof.Rows.sortedS (cs.map sg) = true) : cs.Pairwise (· ≤ ·) := by
  cases cs with
  | nil => exact List.Pairwise.nil
  | cons c r => exact rising_sg r c h
/-- letters: ascending, from a to z -/
def Ltr (z : Str) (m : Nat) : Prop := z.length = m ∧ (TL.tl z).Pairwise (· < ·) ∧ ∀ c ∈ TL.tl z, 97 ≤ c ∧ c ≤ 122
def alpha : List Nat := TL.tl (Str.ofString "abcdefghijklmnopqrstuvwxyz")
theorem alpha_nodup : alpha.Nodup := by decide +kernel
theorem alpha_all : ∀ c ∈ alpha, 97 ≤ c ∧ c ≤ 122 := by decide +kernel
theorem alpha_len : alpha.length = 26 := by decide +kernel
theorem ltr_of {fs ds L : List Nat} (hp : (fs ++ L).Perm alpha) (hd : ds.Perm fs) (hs : ds.Pairwise (· ≤ ·)) : ds.Pairwise (· < ·) ∧ ∀ c ∈ ds, 97 ≤ c ∧ c ≤ 122 := by
  have nd : (fs ++ L).Nodup := hp.nodup_iff.mpr alpha_nodup
  have ndf : ds.Nodup := hd.nodup_iff.mpr (List.nodup_append.mp nd).1
  refine ⟨?_, fun c hc => alpha_all c (hp.mem_iff.mp (List.mem_append_left _ (hd.mem_iff.mp hc)))⟩
  have : ds.Pairwise (fun a b => a ≤ b ∧ a ≠ b) := List.Pairwise.and hs ndf
  exact this.imp fun ⟨h1, h2⟩ => by omega
theorem cutS_tl (z : Str) (lo hi : Option Int) : TL.tl (cutS z lo hi) = ((TL.tl z).drop (HT.sIx z.length 0 lo)).take (HT.sIx z.length z.length hi - HT.sIx z.length 0 lo) := by
  unfold cutS TL.tl
  simp
theorem cut_to {z : Str} {j : Nat} (h : j ≤ z.length) : TL.tl (cutS z none (some (j : Int))) = (TL.tl z).take j := by
  rw [cutS_tl, HT.sIx_none, HT.sIx_nat, List.drop_zero, Nat.min_eq_left h, Nat.sub_zero]
theorem cut_from {z : Str} {j : Nat} (h : j ≤ z.length) : TL.tl (cutS z (some (j : Int)) none) = (TL.tl z).drop j := by
  rw [cutS_tl, HT.sIx_none, HT.sIx_nat, Nat.min_eq_left h]
  exact List.take_of_length_le (by rw [List.length_drop, TL.len_tl]; omega)
theorem kp_seq {K : PySem.W.Frag} {p a : Addr} {H H' : Hp} {kvs : List (Key × V)} {xs : List V} (k : Kp p H H') (hp : H p = some (.dK kvs)) (h : SqL K H a xs) : SqL K H' a xs := by
  rcases h with (h | ⟨o, h⟩) | h
  · exact .inl (.inl (k _ _ h (ne_of h hp (by intro z; cases z))))
  · exact .inl (.inr ⟨o, k _ _ h (ne_of h hp (by intro z; cases z))⟩)
  · exact .inr h
theorem kp_seqT {K : PySem.W.Frag} {p a : Addr} {H H' : Hp} {kvs : List (Key × V)} {xs : List V} (k : Kp p H H') (hp : H p = some (.dK kvs)) (h : SqT K H a xs) : SqT K H' a xs := by
  rcases h with (h | ⟨o, h⟩) | h
  · exact .inl (.inl (k _ _ h (ne_of h hp (by intro z; cases z))))
  · exact .inl (.inr ⟨o, k _ _ h (ne_of h hp (by intro z; cases z))⟩)
  · exact .inr h
theorem at_of' {α : Type} {xs : List α} {z : Int} {j : Nat} {v : α} (e : z = (j : Int)) (h : xs[j]? = some v) : atI xs z = some v := by
  rw [e]
  exact atI_nat h
end Vf
set_option Elab.async false
set_option linter.all false
set_option maxRecDepth 100000
set_option maxHeartbeats 4000000
/-! nested data -/
namespace Vf
open PySem L2 PyProof.Rows
def Dat : HO → Prop
  | .lst _ => True
  | .tup _ => True
  | .frz _ _ => True
  | _ => False
/-- lists and tuples stand as they stood -/
def Kl (H H' : Hp) : Prop := ∀ b o, H b = some o → Dat o → H' b = some o
theorem Kl.refl (H : Hp) : Kl H H := fun _ _ e _ => e
theorem Kl.trans {H H1 H2 : Hp} (a : Kl H H1) (b : Kl H1 H2) : Kl H H2 := fun c o e d => b c o (a c o e d) d
theorem Kl.same {H H' : Hp} (s : Same H H') : Kl H H' := fun b o e _ => s b o e
theorem Kl.kp {H H' : Hp} {p : Addr} {kvs : List (Key × V)} (k : Kp p H H') (hp : H p = some (.dK kvs)) : Kl H H' := fun b o e d => k b o e fun z => by
  rw [z, hp] at e
  cases e
  exact d
theorem Kl.del {H H' : Hp} (k : Kl H H') (a : Addr) : Kl (L2.del H a) (L2.del H' a) := fun b o e d => by
  by_cases hb : b = a
  · rw [hb, del_same] at e; cases e
  · rw [del_ne hb] at e ⊢
    exact k b o e d
theorem Kl.undel (H : Hp) (a : Addr) : Kl (L2.del H a) H := fun b o e d => by
  by_cases hb : b = a
  · rw [hb, del_same] at e; cases e
  · rw [del_ne hb] at e
    exact e
theorem del_upd (H : Hp) (a : Addr) (o : HO) : L2.del (L2.upd H a o) a = L2.del H a := by
  funext b
  by_cases hb : b = a
  · rw [hb, del_same, del_same]
  · rw [del_ne hb, del_ne hb, upd_ne hb]
theorem Kl.rd {H H' : Hp} {a : Addr} {u : HO} (k : Kl H H') (d : Dat u) (h : Rd H a u) : Rd H' a u := by
  rcases h with h | ⟨o, h⟩
  · exact .inl (k _ _ h d)
  · exact .inr ⟨o, k _ _ h trivial⟩
theorem Kl.seq {K : PySem.W.Frag} {H H' : Hp} {a : Addr} {xs : List V} (k : Kl H H') (h : SqL K H a xs) : SqL K H' a xs := by
  rcases h with h | h
  · exact .inl (k.rd trivial h)
  · exact .inr h
theorem Kl.seqT {K : PySem.W.Frag} {H H' : Hp} {a : Addr} {xs : List V} (k : Kl H H') (h : SqT K H a xs) : SqT K H' a xs := by
  rcases h with h | h
  · exact .inl (k.rd trivial h)
  · exact .inr h
end Vf
namespace L2
open PySem PyProof.Rows Vf
mutual
theorem Dp.kl {K : PySem.W.Frag} {H H' : Hp} (k : Kl H H') : ∀ (d : PyData) (v : V), Dp K H v d → Dp K H' v d
  | .none, _, h => by cases h; exact .non
  | .bool b, _, h => by cases h; exact .bl b
  | .int i, _, h => by cases h; exact .int i
  | .str x, _, h => by cases h; exact .str x
  | .list ds, _, h => by
    cases h with
    | lst a b => exact .lst (k.seq a) (DpAll.kl k ds _ b)
  | .tuple ds, _, h => by
    cases h with
    | tup a b => exact .tup (k.seqT a) (DpAll.kl k ds _ b)
  | .dict kvs, _, h => by cases h
theorem DpAll.kl {K : PySem.W.Frag} {H H' : Hp} (k : Kl H H') : ∀ (ds : List PyData) (vs : List V), DpAll K H vs ds → DpAll K H' vs ds
  | [], _, h => by cases h; exact .nil
  | d :: ds, _, h => by
    cases h with
    | cons a b => exact .cons (Dp.kl k d _ a) (DpAll.kl k ds _ b)
end
theorem Dp.mv {K : PySem.W.Frag} {H H' : Hp} {v : V} {d : PyData} (h : Dp K H v d) (k : Kl H H') : Dp K H' v d := Dp.kl k d v h
theorem DpAll.mv {K : PySem.W.Frag} {H H' : Hp} {vs : List V} {ds : List PyData} (h : DpAll K H vs ds) (k : Kl H H') : DpAll K H' vs ds := DpAll.kl k ds vs h
theorem DpAll.length {K : PySem.W.Frag} {H : Hp} : ∀ {vs : List V} {ds : List PyData}, DpAll K H vs ds → vs.length = ds.length
  | _, _, .nil => rfl
  | _, _, .cons _ t => congrArg Nat.succ (DpAll.length t)
theorem DpAll.get {K : PySem.W.Frag} {H : Hp} : ∀ {vs : List V} {ds : List PyData} {i : Nat} {d : PyData}, DpAll K H vs ds → ds[i]? = some d → ∃ v, vs[i]? = some v ∧ Dp K H v d
  | _, _, _, _, .nil, e => by simp at e
  | _, _, 0, _, .cons h t, e => by simp at e; subst e; exact ⟨_, rfl, h⟩
  | _, _, i + 1, d, .cons h t, e => by
    obtain ⟨v, h1, h2⟩ := DpAll.get (i := i) (d := d) t (by simpa using e)
    exact ⟨v, by simpa using h1, h2⟩
theorem DpAll.append {K : PySem.W.Frag} {H : Hp} : ∀ {vs ws : List V} {ds es : List PyData}, DpAll K H vs ds → DpAll K H ws es → DpAll K H (vs ++ ws) (ds ++ es)
  | _, _, _, _, .nil, h => h
  | _, _, _, _, .cons a t, h => .cons a (DpAll.append t h)
theorem DpAll.snoc {K : PySem.W.Frag} {H : Hp} {vs : List V} {v : V} {ds : List PyData} {d : PyData} (h : DpAll K H vs ds) (g : Dp K H v d) : DpAll K H (vs ++ [v]) (ds ++ [d]) := h.append (.cons g .nil)
theorem DpAll.take {K : PySem.W.Frag} {H : Hp} : ∀ {vs : List V} {ds : List PyData} (n : Nat), DpAll K H vs ds → DpAll K H (vs.take n) (ds.take n)
  | _, _, 0, _ => .nil
  | _, _, n + 1, .nil => .nil
  | _, _, n + 1, .cons a t => .cons a (DpAll.take n t)
theorem DpAll.drop {K : PySem.W.Frag} {H : Hp} : ∀ {vs : List V} {ds : List PyData} (n : Nat), DpAll K H vs ds → DpAll K H (vs.drop n) (ds.drop n)
  | _, _, 0, h => h
  | _, _, n + 1, .nil => .nil
  | _, _, n + 1, .cons a t => DpAll.drop n t
theorem Dp.listE {K : PySem.W.Frag} {H : Hp} {v : V} {ds : List PyData} (h : Dp K H v (.list ds)) : ∃ a xs, v = .ref a ∧ SqL K H a xs ∧ DpAll K H xs ds := by
  cases h with
  | lst a b => exact ⟨_, _, rfl, a, b⟩
theorem Dp.tupE {K : PySem.W.Frag} {H : Hp} {v : V} {ds : List PyData} (h : Dp K H v (.tuple ds)) : ∃ a xs, v = .ref a ∧ SqT K H a xs ∧ DpAll K H xs ds := by
  cases h with
  | tup a b => exact ⟨_, _, rfl, a, b⟩
theorem Dp.intE {K : PySem.W.Frag} {H : Hp} {v : V} {i : Int} (h : Dp K H v (.int i)) : v = .int i := by
  cases h; rfl
theorem Dp.strE {K : PySem.W.Frag} {H : Hp} {v : V} {i : Str} (h : Dp K H v (.str i)) : v = .str i := by
  cases h; rfl
theorem dpAll_ints (K : PySem.W.Frag) (H : Hp) : ∀ cs : List Int, DpAll K H (cs.map V.int) (cs.map PyData.int)
  | [] => .nil
  | c :: r => .cons (.int c) (dpAll_ints K H r)
theorem dpAll_intsE {K : PySem.W.Frag} {H : Hp} : ∀ {cs : List Int} {vs : List V}, DpAll K H vs (cs.map PyData.int) → vs = cs.map V.int
  | [], _, h => by cases h; rfl
  | c :: r, _, h => by
    cases h with
    | cons a b => rw [a.intE, dpAll_intsE b]; rfl
theorem dpAll_strs (K : PySem.W.Frag) (H : Hp) : ∀ cs : List Str, DpAll K H (cs.map V.str) (cs.map PyData.str)
  | [] => .nil
  | c :: r => .cons (.str c) (dpAll_strs K H r)
theorem dpAll_strsE {K : PySem.W.Frag} {H : Hp} : ∀ {cs : List Str} {vs : List V}, DpAll K H vs (cs.map PyData.str) → vs = cs.map V.str
  | [], _, h => by cases h; rfl
  | c :: r, _, h => by
    cases h with
    | cons a b => rw [a.strE, dpAll_strsE b]; rfl
end L2
namespace Vf
open PySem L2 PyProof.Rows
/-! a code's data -/
abbrev Row := List (Int × Int)
def tupD (gb : Int × Int) : PyData := .tuple [.int gb.1, .int gb.2]
def rowD (r : Row) : PyData := .list (r.map tupD)
def rowT (r : Row) : PyData := .tuple (r.map tupD)
def rowsD (rs : List Row) : PyData := .list (rs.map rowD)
def rowsT (rs : List Row) : PyData := .tuple (rs.map rowT)
def intsD (es : List Int) : PyData := .list (es.map PyData.int)
def intsT (es : List Int) : PyData := .tuple (es.map PyData.int)
def codeD (z : Str) (rs : List Row) (es : List Int) : PyData := .tuple [.str z, rowsD rs, intsD es]
/-- rows and ends of a code with so many values -/
structure Good (m : Nat) (rs : List Row) (es : List Int) : Prop where
  len : es.length = rs.length
  pos : 0 < rs.length
  row : ∀ r ∈ rs, r.length = m ∧ ∀ gb ∈ r, 0 ≤ gb.1 ∧ gb.1 < rs.length ∧ 0 ≤ gb.2 ∧ gb.2 < 100
  ends : ∀ e ∈ es, 0 ≤ e ∧ e < 100
theorem del_some {H : Hp} {a b : Addr} {o : HO} (e : L2.del H a b = some o) : b ≠ a ∧ H b = some o := by
  by_cases hb : b = a
  · rw [hb, del_same] at e; cases e
  · rw [del_ne hb] at e
    exact ⟨hb, e⟩
/-- a row of a code of c states -/
def RowOk (m : Nat) (c : Int) (r : Row) : Prop := r.length = m ∧ ∀ gb ∈ r, 0 ≤ gb.1 ∧ gb.1 < c ∧ 0 ≤ gb.2 ∧ gb.2 < 100
/-- a comprehension without a test -/
theorem lcYes {σ : L2.St} {H : Hp} {A B : Hp → Prop} (h : A H) : tYes σ H (fun b H' => if b = true then A H' else B H') := by
  show (if true = true then A H else B H)
  rw [if_pos rfl]
  exact h
end Vf
namespace L2
theorem Same.put {H H' : Hp} {r : PySem.Addr} {o : HO} (s : Same H H') (h : H r = none) : Same H (upd H' r o) := fun b u e => by
  rw [upd_ne (ne_of_none e h)]
  exact s b u e
end L2
set_option Elab.async false
set_option linter.all false
set_option maxRecDepth 100000
set_option maxHeartbeats 4000000
/-! for i, c in enumerate(text); walks of texts -/
namespace Vf
open PySem L2 PyProof.Rows
/-- the text x, each sign in a new pair with its place -/
def Itse (x : Str) : It :=
  ⟨fun i _ => i < x.cps.size, fun i H v H' => ∃ T c, v = .ref T ∧ H T = none ∧ H' = L2.upd H T (.tup [.int (i : Nat), .str (sg c)]) ∧ x.cps[i]? = some c, fun i _ => x.cps.size ≤ i⟩
theorem turn_enumS {P : Program} {w : World} {K : PySem.W.Frag} {elts : List Expr} {kk : Nat} {tpos : Pos} (x : Str) (t : Tok) (e it : Addr) :
    Turn P w K (.Tuple elts kk tpos) (Itse x) [e, it] e (fun i h => (∃ old, IsEnum h e it ((i : Nat) : Int) old) ∧ h.IsStrIter it (strIterType x) x t i ∧ e ≠ it ∧ i ≤ x.cps.size) where
  mem := by simp
  obj := fun i h st b hb => by
    obtain ⟨⟨old, he⟩, ⟨o, ho, hc, hd⟩, _⟩ := st
    have e' : b = e ∨ b = it := by simpa using hb
    rcases e' with z | z
    · rw [z]; exact ⟨_, he, fun v q => nomatch q⟩
    · rw [z]; exact ⟨o, ho, fun v q => by rw [hd] at q; cases q⟩
  keep := fun i h h' st k => let ⟨⟨old, he⟩, ⟨o, ho, r⟩, hne, hle⟩ := st; ⟨⟨old, k e (by simp) _ he⟩, ⟨o, k it (by simp) o ho, r⟩, hne, hle⟩
  item := by
    intro X hP hw hK hc i pins s σ H E I hf st hg
    subst hP hw hK
    obtain ⟨⟨old, he⟩, hit, hne, hle⟩ := st
    have hg : i < x.cps.size := hg
    have hel : e < s.heap.objs.size := Heap.lt_size he
    have hil : it < s.heap.objs.size := by obtain ⟨_, q, _⟩ := hit; exact Heap.lt_size q
    have D : Draws X.prog X.w X.A.in1 it [it] x.cps.size (fun i v => ∃ c u, x.cps[i]? = some c ∧ v = .str ⟨#[c]⟩ u) (fun i h => h.IsStrIter it (strIterType x) x t i) := Draws.text (A := X.A.in1) (show X.A.in1.handled = none from I.ok.hd hc) it x t
    refine wpAny_pyNext_enum_itemC D he hit hg hne (by simpa using hne) fun y h' tk hy ho hit' hT hsz hk => ?_
    obtain ⟨c, u, hcx, rfl⟩ := hy
    refine ⟨_, rfl, wpAny_letOwnedTupleGo_enum (s := { s with heap := h', toks := tk + 1 }) ho fun h'' he' sb => ?_⟩
    have hT2 : h''.get? s.heap.objs.size = some { cls := .type "tuple", data := .seq #[.int i tk, .str ⟨#[c]⟩ u] } := (sb.2 _ (Nat.ne_of_gt hel)).trans hT
    have new : ObjOk X.prog X.w (L2.upd H s.heap.objs.size (.tup [.int (i : Nat), .str (sg c)])) h'' s.heap.objs.size (.tup [.int (i : Nat), .str (sg c)]) :=
      ⟨by show 2 ≤ sizeLine; decide, [.int i tk, .str ⟨#[c]⟩ u], .cons ⟨_, rfl⟩ (.cons ⟨_, rfl⟩ .nil), ⟨_, hT2, rfl, _, rfl⟩⟩
    have I1 : Inv X pins σ (L2.upd H s.heap.objs.size (.tup [.int (i : Nat), .str (sg c)])) { s with heap := h'', toks := tk + 1 } :=
      I.turnedNew (ch := [e, it]) (fun b ob hb q => (sb.2 b (fun z => hb (by simp [z]))).trans (hk b ob (fun z => hb (by simp [z])) (fun z => hb (by simp [z])) q)) hf (Nat.le_refl _) new
    obtain ⟨oi, hoi, r⟩ := hit'
    refine ⟨.ref s.heap.objs.size, _, I1, rfl, ⟨_, c, rfl, I.hok.fresh (Nat.le_refl _), rfl, hcx⟩, ⟨⟨.str ⟨#[c]⟩ u, ?_⟩, ⟨oi, (sb.2 it (Ne.symm hne)).trans hoi, r⟩, hne, hg⟩, fun b hb => ?_⟩
    · have e1 : ((i + 1 : Nat) : Int) = (i : Int) + 1 := by omega
      rw [e1]; exact he'
    · have hb' : b < s.heap.objs.size := by
        have e' : b = e ∨ b = it := by simpa using hb
        rcases e' with z | z
        · rw [z]; exact hel
        · rw [z]; exact hil
      rw [upd_ne (Nat.ne_of_lt hb')]
      exact (hf b hb).1
  done := by
    intro X hP hw hK hc i pins s σ H E I hf st hg
    subst hP hw hK
    obtain ⟨⟨old, he⟩, hit, hne, hle⟩ := st
    have hg : x.cps.size ≤ i := hg
    have ei : i = x.cps.size := Nat.le_antisymm hle hg
    subst ei
    obtain ⟨f0, f1, f2, f3, f4, f5⟩ := hf it (by simp)
    have D : Draws X.prog X.w X.A.in1 it [it] x.cps.size (fun i v => ∃ c u, x.cps[i]? = some c ∧ v = .str ⟨#[c]⟩ u) (fun i h => h.IsStrIter it (strIterType x) x t i) := Draws.text (A := X.A.in1) (show X.A.in1.handled = none from I.ok.hd hc) it x t
    exact wpAny_pyNext_enum_endD D he hit fun h' eb => ⟨rfl, I.turned (t' := s.toks) (fun b o hb q => eb b o hb q) f0 f1 f3 f4 f5⟩
  self := fun A i s Q E st h => let ⟨⟨_, he⟩, _⟩ := st; wpAny_pyIter_enum he h
def iEnumS (ta : TA) : TI := fun σ H R => ta σ H fun vs H1 => ∃ z, vs = [.str z] ∧ R (Itse z) H1
theorem pi_enumS {X : Cx} {e : Expr} {ta : TA} {p pos tpos : Pos} {elts : List Expr} {kk : Nat} (hg : Gl X "enumerate") (hm : X.mg "enumerate" = none) (ha : PA X [e] ta) (hs : starEach [e] X.env = [(false, eval e X.env)] := by rfl) :
    PI X (.Tuple elts kk tpos) (.Call (.Name "enumerate" p) [e] [] pos) (iEnumS ta) := by
  refine ⟨fun pins s σ H R I h => ?_⟩
  refine Call_ (ld_blt I hg hm boot_enumerate (PyProof.Rows.callWith_type1 (thn (ha.run pos pins s σ H _ I h) fun us s1 ⟨vs, H1, I1, r1, q1⟩ => ?_) hs rfl))
  obtain ⟨x, ex, q⟩ := q1
  subst ex
  cases r1 with
  | cons r rr =>
    cases rr
    obtain ⟨t, rfl⟩ := r
    refine call_enumerate_str fun h' he hit hsz hk => wpAny_pyIter_enum he ?_
    have I2 : Inv X pins σ H1 { s1 with heap := h' } := I1.kept (t' := s1.toks) hk
    refine ⟨s1.heap.objs.size + 1, [s1.heap.objs.size + 1, s1.heap.objs.size], _, _, H1, rfl, I2, turn_enumS x t (s1.heap.objs.size + 1) s1.heap.objs.size, ⟨⟨.none, he⟩, hit, Nat.succ_ne_self _, Nat.zero_le _⟩, fun b hb => ?_, q⟩
    have e' : b = s1.heap.objs.size + 1 ∨ b = s1.heap.objs.size := by simpa using hb
    have hle : s1.heap.objs.size ≤ b := by
      rcases e' with z | z
      · rw [z]; exact Nat.le_add_right _ _
      · rw [z]; exact Nat.le_refl _
    exact I1.fpOk hle (I1.hok.fresh hle)
theorem walk_strS {z : Str} : Walk (Its z) z.length (fun _ => True) (fun i H v H' => H' = H ∧ ∃ c, (TL.tl z)[i]? = some c ∧ v = .str (sg c)) :=
  ⟨fun _ _ hi _ => hi, fun _ _ => Nat.le_refl _, fun i _ _ _ _ _ y => ⟨y.1, by obtain ⟨c, h, e⟩ := y.2; exact ⟨c, by simpa using h, e⟩⟩⟩
theorem walk_enumS {z : Str} : Walk (Itse z) z.length (fun _ => True) (fun i H v H' => ∃ T c, v = .ref T ∧ H T = none ∧ H' = L2.upd H T (.tup [.int (i : Nat), .str (sg c)]) ∧ (TL.tl z)[i]? = some c) :=
  ⟨fun _ _ hi _ => hi, fun _ _ => Nat.le_refl _, fun i _ _ _ _ _ y => by obtain ⟨T, c, h1, h2, h3, h4⟩ := y; exact ⟨T, c, h1, h2, h3, by simpa using h4⟩⟩
/-! rules with the written part named, for a comprehension's block -/
section
variable {X : Cx} {K : PySem.W.Frag} {tg : Expr}
def rTupOf (K : PySem.W.Frag) : List V → Hp → VK → Prop := fun xs H Q => ∃ p ys, xs = [.ref p] ∧ ((SqL K H p ys ∧ ∀ l, H l = none → Q (.ref l) (L2.upd H l (.tup ys))) ∨ (SqT K H p ys ∧ Q (.ref p) H))
def rLstOf (K : PySem.W.Frag) : List V → Hp → VK → Prop := fun xs H Q => ∃ p ys, xs = [.ref p] ∧ (SqL K H p ys ∨ SqT K H p ys) ∧ ∀ l, H l = none → Q (.ref l) (L2.upd H l (.lst ys))
def rLenOf (K : PySem.W.Frag) : List V → Hp → VK → Prop := fun xs H Q => ∃ x n, xs = [x] ∧ LenV K x H n ∧ Q (.int (n : Nat)) H
theorem call_tupleK (hK : X.K = K) : CallR X (.type "tuple") (rTupOf K) := by subst hK; exact call_tuple_of
theorem call_listK (hK : X.K = K) : CallR X (.type "list") (rLstOf K) := by subst hK; exact call_list_of
theorem call_lenK (hK : X.K = K) : CallR X (.builtin "len") (rLenOf K) := by subst hK; exact call_len
theorem pi_listK (hK : X.K = K) {l : Expr} {tl : TE} (hl : PE X l tl) : PI X tg l (iList K tl) := by subst hK; exact pi_list hl
theorem pi_tupK (hK : X.K = K) {l : Expr} {tl : TE} (hl : PE X l tl) : PI X tg l (iTup K tl) := by subst hK; exact pi_tup hl
theorem ix_listK (hK : X.K = K) : IxR X (rIxL K) := by subst hK; exact ix_list
theorem ix_tupK (hK : X.K = K) : IxR X (rIxT K) := by subst hK; exact ix_tup
end
theorem pi_or {X : Cx} {tg e : Expr} {w1 w2 : TI} (h1 : PI X tg e w1) (h2 : PI X tg e w2) : PI X tg e (fun σ H R => w1 σ H R ∨ w2 σ H R) :=
  ⟨fun pins s σ H R I h => h.elim (fun h => h1.run pins s σ H R I h) fun h => h2.run pins s σ H R I h⟩
end Vf
set_option Elab.async false
set_option linter.all false
set_option maxRecDepth 100000
set_option maxHeartbeats 4000000
/-! own errors: made by an own __init__ over a plain own base; methods that may raise -/
namespace Vf
open PySem L2 PyProof.Rows PySem.Calls
def tMethV (C : Addr) (m : Str) (sp : Sp) (E : L2.St → XK) (ta : TE) (t : TA) : TE := fun σ H Q => ta σ H fun x H1 => ∃ a dx fs, x = .ref a ∧ H1 a = some (.ins C dx fs) ∧ fs.lookup m = none ∧ t σ H1 fun vs H2 => sp (x :: vs) H2 Q (E σ)
section
variable {X : Cx} {CX : CXT} {k : Nat} {f C : Addr} {fd : FuncData} {ps : List Str} {sp : Sp} {E : L2.St → XK} {x m : Str} {p pos apos : Pos} {e o : Expr} {es : List Expr} {ta : TE} {t : TA}
theorem pe_methV {pl : Sem Bool} (he : PE X o ta) (c : Cls X.K C) (hm : Meth X.K C m f) (F : FnOk X.prog X.w X.K X.mg X.base CX k f fd ps sp) (hr : Room k X.A) (hb : L2.Binds X.K fd ps []) (hx : ∀ σ, PassesAt CX X σ (E σ)) (ha : PA X (e :: es) t)
    (hst : starEach (e :: es) X.env = (false, eval e X.env) :: starEach es X.env := by rfl) (hpl : (backTo pos (starEach es X.env)).any (·.1) = false := by rfl)
    (ht : eval (.Call (.Attribute o m apos) (e :: es) [] pos) X.env = (do
      let ov ← eval o X.env
      standAt apos.atName
      let (f, first) ← holding [ov] (getMethod ov m pl)
      callWith pos f first (backTo pos (starEach (e :: es) X.env)) (backToKw pos (keywordEach [] X.env))) := by rfl) :
    PE X (.Call (.Attribute o m apos) (e :: es) [] pos) (tMethV C m sp E ta t) := by
  refine ⟨fun pins s σ H Q I h => ?_⟩
  refine PySem.W.methodCall_KW (pl := pl) (thn (he.run pins s σ H _ I h) fun u s1 ⟨x, H1, I1, rx, a, dx, fs, ex, ea, l, q⟩ => ?_) ht
  subst ex
  obtain rfl : u = Value.ref a := rx
  refine getmeth_ok I1 ea c hm l ?_
  refine PySem.W.callWith_K (first := [.ref a]) (h₀ := X.base) I.ok.mod.kin hm.kp (thn (ha.run pos pins s1 σ H1 _ I1 q) fun us s2 ⟨vs, H2, I2, r, q2⟩ => ⟨I2.kIn, ?_⟩) hst hpl
  exact run_fnS (us := .ref a :: us) (vs := .ref a :: vs) F hr hb (hx σ) I2 (.cons rfl r) q2
end
/-- what the top says of the plain base at B, asked for __init__ -/
structure BaseT (K : PySem.W.Frag) (mg : Str → Option Value) (x : Str) (B : Addr) : Prop where
  g : mg x = some (.ref B)
  s : PySem.W.specialIn K (.ref B) "__getattribute__" = some (some (.builtin "type.__getattribute__"))
  r : PySem.W.readsIn K B (.type "type") = true
  v : PySem.W.findCls K (.ref B) (.type "type") "__init__" = some (.val (.builtin "ValueError.__init__"))
section
variable {X : Cx} {e : Expr} {es : List Expr} {ta : TA} {x : Str} {p1 p2 pos : Pos} {B : Addr}
theorem pe_clsinit {pl : Sem Bool} (T : BaseT X.K X.mg x B) (hg : Gl X x) (ha : PA X (e :: es) ta) (hdb : (x == ("__debug__" : Str)) = false := by decide)
    (hc : eval (.Call (.Attribute (.Name x p1) "__init__" p2) (e :: es) [] pos) X.env = (do
      let ov ← eval (.Name x p1) X.env
      standAt p2.atName
      let (f, first) ← holding [ov] (getMethod ov "__init__" pl)
      callWith pos f first (backTo pos (starEach (e :: es) X.env)) (backToKw pos (keywordEach [] X.env))) := by rfl)
    (he : starEach (e :: es) X.env = (false, eval e X.env) :: starEach es X.env := by rfl) (hpl : (backTo pos (starEach es X.env)).any (·.1) = false := by rfl) :
    PE X (.Call (.Attribute (.Name x p1) "__init__" p2) (e :: es) [] pos) (tVeI X.K ta) := by
  refine ⟨fun pins s σ H Q I h => ?_⟩
  refine PySem.W.methodCall_KW (ld_glob I hg T.g ?_ hdb) hc
  refine PySem.W.method_cls I.kIn T.s (PySem.W.cls_value (mc := .type "type") I.kIn T.r T.v (by decide +kernel) ?_)
  show wpAny _ _ (callWith pos (Value.builtin "ValueError.__init__") [] (backTo pos (starEach (e :: es) X.env)) []) _ _ _
  refine PyProof.Rows.callWith_method1 (thn (ha.run pos pins _ σ H _ (I.tok _) h) fun us s1 ⟨vs, H1, I1, r1, a, C, ws, ev, hl, T, ea, q⟩ => ?_) he hpl
  subst ev
  cases r1 with
  | @cons _ u0 _ ur ra rw' =>
    obtain rfl : u0 = Value.ref a := ra
    have hlen : ur.length ≤ sizeLine := by
      rw [← Paired.length rw', sizeLine_eq]
      omega
    exact oinit_ok T I1 ea hlen fun s' J => ⟨.non, H1, J, rfl, q⟩
end
/-- what the top says of an own error at C over the base, with the __init__ at fI that keeps one field -/
structure ErrT (K : PySem.W.Frag) (mg : Str → Option Value) (x f : Str) (C fI : Addr) : Prop where
  oex : OexC K C
  g : mg x = some (.ref C)
  iC : PySem.W.findIn K (.ref C) "__init__" = some (some (.ref fI))
  tI : PySem.W.typeIn K (.ref fI) = some (.type "function")
  nf : PySem.W.findIn K (.ref C) f = some none
  xf : XfC K C
/-- the promise of such an __init__ -/
def spErr (C : Addr) (f : Str) : Sp := fun vs H Q _ => ∃ (a : Addr) (v : V), vs = [.ref a, v] ∧ H a = some (exo a C none) ∧ ∀ d, H d = none → d ≠ a → Q .non (L2.upd (L2.upd H d (exd d [(f, v)])) a (exo a C (some d)))
/-- what raise X(v) leaves -/
def Raised (H H' : Hp) (d : Addr) (f : Str) (v : V) : Prop := H d = none ∧ H' d = some (.xd [(f, v)]) ∧ Same H H'
theorem raised_of {H : Hp} {a d C : Addr} {f : Str} {v : V} (ha : H a = none) (hd : H d = none) (hda : d ≠ a) :
    Raised H (L2.upd (L2.del (L2.upd (L2.upd (L2.upd H a (exo a C none)) d (exd d [(f, v)])) a (exo a C (some d))) a) d (.xd [(f, v)])) d f v := by
  refine ⟨hd, upd_same, fun b o e => ?_⟩
  have h1 : b ≠ a := ne_of_none e ha
  have h2 : b ≠ d := ne_of_none e hd
  rw [upd_ne h2, del_ne h1, upd_ne h1, upd_ne h2, upd_ne h1]
  exact e
theorem idx_lt' {z : List Nat} {c : Nat} (h : c ∈ z) : z.idxOf c < z.length := List.idxOf_lt_length_iff.mpr h
theorem at_sg {z : Str} {c i : Nat} : StrLaws.At z (sg c) z.length i ↔ (TL.tl z)[i]? = some c := by
  rw [TL.at_iff (by rw [sg_tl]; simp) i, sg_tl]
  rw [← List.head?_drop]
  cases h : (TL.tl z).drop i with
  | nil => exact ⟨fun h => absurd h (by show ¬ (([] : List Nat) == [c]) = true; exact Bool.false_ne_true), fun h => absurd h (by simp)⟩
  | cons a r =>
    constructor
    · intro h
      have h2 : [a] = [c] := eq_of_beq h
      exact congrArg some (List.cons.inj h2).1
    · intro h
      have h2 : a = c := Option.some.inj h
      subst h2
      exact beq_self_eq_true [a]
theorem occ_sg {z : Str} {c : Nat} (h : c ∈ TL.tl z) : ∃ r, Builtin.Str.occurrences z (sg c) 0 z.length 1 = (TL.tl z).idxOf c :: r := by
  have hlt := idx_lt' h
  have hget : (TL.tl z)[(TL.tl z).idxOf c]? = some c := by
    rw [List.getElem?_eq_getElem hlt]
    simp
  rcases StrLaws.occ_head z (sg c) 1 (Nat.le_refl 1) with ⟨h0, hn⟩ | ⟨i, r, h0, hi, hn⟩
  · exact absurd (at_sg.mpr hget) (hn _)
  · rw [at_sg] at hi
    have e : i = (TL.tl z).idxOf c := by
      rcases Nat.lt_trichotomy i ((TL.tl z).idxOf c) with q | q | q
      · exfalso
        have := List.not_of_lt_findIdx (p := (· == c)) (xs := TL.tl z) q
        obtain ⟨hl, he⟩ := List.getElem?_eq_some_iff.mp hi
        simp [he] at this
      · exact q
      · exact absurd (at_sg.mpr hget) (hn _ q)
    exact ⟨r, by rw [h0, e]⟩
theorem find_sg {z : Str} {c : Nat} (h : c ∈ TL.tl z) : Txt.find z (sg c) = ((TL.tl z).idxOf c : Int) := by
  obtain ⟨r, e⟩ := occ_sg h
  unfold Txt.find
  rw [e]
end Vf
set_option Elab.async false
set_option linter.all false
set_option maxRecDepth 100000
set_option maxHeartbeats 4000000
namespace Vf
open PySem L2 PyProof.Rows
def top (i : Nat) : Stmt := PySem.Challenge.pw_bestcodes_k03_lengths.main.body.getD i (.Pass ⟨0, 0, 0, 0⟩)
structure TxtA (K : PySem.W.Frag) (mg : Str → Option Value) : Prop where
  int : mg "int" = none
  len : mg "len" = none
  list : mg "list" = none
  range : mg "range" = none
  sorted : mg "sorted" = none
def spPen (K : PySem.W.Frag) : Sp := fun vs H Q _ => ∃ (s : Addr) (ns : List Int), vs = [.ref s] ∧ SqL K H s (ns.map V.int) ∧ ns.length ≤ 63 ∧
  ∀ (p c : Addr) (H' : Hp), H p = none → H c = none → Pen H' p c 0 → Same H H' → Q (.ref p) H'
def spDraw : Sp := fun vs H Q _ => ∃ (p c : Addr) (m : Int) (n : Nat), vs = [.ref p, .int m] ∧ Pen H p c n ∧ n ≤ 2 ^ 30 ∧ 0 < m ∧ m < 2 ^ 200 ∧
  ∀ (d : Int) (H' : Hp), 0 ≤ d → d < m → Pen H' p c (n + 1) → Kp p H H' → Q (.int d) H'
/-- a pick out of a list; out of a text -/
def spPickL (K : PySem.W.Frag) : Sp := fun vs H Q _ => ∃ (p c a : Addr) (xs : List V) (n : Nat), vs = [.ref p, .ref a] ∧ Pen H p c n ∧ n ≤ 2 ^ 30 ∧ SqL K H a xs ∧ 0 < xs.length ∧ xs.length ≤ 1000 ∧
  ∀ (j : Nat) (v : V) (H' : Hp), xs[j]? = some v → Pen H' p c (n + 1) → Kp p H H' → Q v H'
def spPickS : Sp := fun vs H Q _ => ∃ (p c : Addr) (z : Str) (n : Nat), vs = [.ref p, .str z] ∧ Pen H p c n ∧ n ≤ 2 ^ 30 ∧ 0 < z.length ∧ z.length ≤ 1000 ∧
  ∀ (j x : Nat) (H' : Hp), (TL.tl z)[j]? = some x → Pen H' p c (n + 1) → Kp p H H' → Q (.str (sg x)) H'
def spLetters : Sp := fun vs H Q _ => ∃ (p c : Addr) (m : Nat) (n : Nat), vs = [.ref p, .int m] ∧ Pen H p c n ∧ n ≤ 2 ^ 29 ∧ m ≤ 26 ∧
  ∀ (z : Str) (H' : Hp), Ltr z m → Pen H' p c (n + m) → Kp p H H' → Q (.str z) H'
def spBits : Sp := fun vs H Q _ => ∃ (p c : Addr) (n : Nat), vs = [.ref p] ∧ Pen H p c n ∧ n ≤ 2 ^ 29 ∧
  ∀ (d : Int) (H' : Hp), 0 ≤ d → d < 100 → Pen H' p c (n + 3) → Kp p H H' → Q (.int d) H'
section
variable {P : Program} {w : World} {K : PySem.W.Frag} {mg : Str → Option Value} {base : Heap}
abbrev s__law_pen : Stmt := top 19
abbrev N__law_pen : List Str := ["_law_script"]
abbrev P__law_pen : List Str := ["_law_script"]
theorem sc__law_pen : FnScope N__law_pen P__law_pen (defScope s__law_pen) := ⟨rfl, rfl, rfl, by decide +kernel, rfl, by decide +kernel, by decide +kernel⟩

theorem ok_pen {f : Addr} {fd : FuncData} (F : Fun K "_law_pen" "_law_pen" s__law_pen f fd) (T : TxtA K mg) : FnOk P w K mg base CX0 1 f fd P__law_pen (spPen K) := by
  refine F.ok sc__law_pen (fun vs H Q E h => ?_) (fun cdv A outer s H vs Q E hr h => ?_)
  · obtain ⟨s, ns, rfl, _⟩ := h
    rfl
  · obtain ⟨s, ns, rfl, hS, hl, k⟩ := h
    refine ⟨_, (pss_one (ps_ret (pe_disp (pps_cons pe_str (pe_callTy call_list_of (by rfl) T.list boot_list (pa_cons (pe_slice sl_list (pv 0) po_none (po_some pe_int)) pa_nil)) (pps_cons pe_str pe_int (pps_cons pe_str pe_int pps_nil))) (by rfl) (by rfl) (fun z => by cases z) (by decide)))), ?_⟩
    intro p hp
    have s1 : Same H (L2.upd H p (.dK [])) := same_new hp
    refine ⟨_, rfl, _, rfl, s, _, rfl, s1.seq hS, fun q hq => ?_⟩
    have nqp : q ≠ p := (ne_of_none (upd_same (H := H) (a := p)) hq).symm
    refine ⟨q, _, rfl, Or.inl (SqL.of upd_same), fun c hc => ?_⟩
    have ncp : c ≠ p := fun e => by rw [e, upd_ne nqp.symm, upd_same] at hc; cases hc
    have ncq : c ≠ q := fun e => by rw [e, upd_same] at hc; cases hc
    refine ⟨(by rw [upd_ne ncp.symm, upd_ne nqp.symm, upd_same]), penKV c 0 0, rfl, (by show 3 ≤ 15; decide), ?_⟩
    rw [pen_merge]
    have hcn : H c = none := s1.free ((same_new hq).free hc)
    have hqn : H q = none := s1.free hq
    have ec : cutV (ns.map V.int) none (some 63) = (ns.take 63).map V.int := by
      rw [List.take_of_length_le hl]
      unfold cutV
      simp [HT.sIx]
      exact List.take_of_length_le (by rw [List.length_map]; omega)
    refine k p c _ hp hcn ⟨0, 0, ns.take 63, ⟨upd_same, ?_, ?_, by decide, by decide⟩, by decide⟩ ?_
    · rw [upd_ne ncp, upd_same, ec]
    · rw [List.length_take]; omega
    · intro b o e
      rw [upd_ne (ne_of_none e hp), upd_ne (ne_of_none e hcn), upd_ne (ne_of_none e hqn), upd_ne (ne_of_none e hp)]
      exact e
abbrev s__law_draw : Stmt := top 20
abbrev N__law_draw : List Str := ["_law_pen_here", "_law_many", "_law_digit", "_law_at", "_law_cell", "_law_mixed"]
abbrev P__law_draw : List Str := ["_law_pen_here", "_law_many"]
theorem sc__law_draw : FnScope N__law_draw P__law_draw (defScope s__law_draw) := ⟨rfl, rfl, rfl, by decide +kernel, rfl, by decide +kernel, by decide +kernel⟩

theorem ok_draw {f : Addr} {fd : FuncData} (F : Fun K "_law_draw" "_law_draw" s__law_draw f fd) (T : TxtA K mg) : FnOk P w K mg base CX0 1 f fd P__law_draw spDraw := by
  refine F.ok sc__law_draw (fun vs H Q E h => ?_) (fun cdv A outer s H vs Q E hr h => ?_)
  · obtain ⟨p, c, m, n, rfl, _⟩ := h
    rfl
  · obtain ⟨p, c, m, n, rfl, ⟨a, l, cs, ⟨h1, h2, h3, h4, h5⟩, h6⟩, hn, m0, m1, k⟩ := h
    have hu := hu_of hr
    have ncp : c ≠ p := ne_of h2 h1 (by intro z; cases z)
    refine ⟨_, (pss_cons (ps_if (pt_cmpR op_ge (pe_dget hu (pv 0) pe_str (fun _ _ => rfl)) (pv 1) (nomark _)) (pss_cons (ps_set (i := 2) sc__law_draw.nd rfl (Or.inl rfl) (pe_op op_modN (pe_callTy call_int1 (by rfl) T.int boot_int (pa_cons (pe_dget hu (pv 0) pe_str (fun _ _ => rfl)) pa_nil)) (pv 1)))
      (pss_cons (ps_dput hu (pv 0) pe_str (pe_op op_fdivW (pe_dget hu (pv 0) pe_str (fun _ _ => rfl)) (pv 1)) rfl)
      (pss_one (ps_ret (pv 2))))) pss_nil)
      (pss_cons (ps_set (i := 3) sc__law_draw.nd rfl (Or.inl rfl) (pe_dget hu (pv 0) pe_str (fun _ _ => rfl)))
      (pss_cons (ps_dput hu (pv 0) pe_str (pe_op op_add (pv 3) pe_int) rfl)
      (pss_cons (ps_set (i := 4) sc__law_draw.nd rfl (Or.inl rfl) (pe_op op_add (pe_op op_mul pe_int (pv 3)) pe_int))
      (pss_cons (ps_if (pt_cmpR (op_neD hr.units) (pe_dget hu (pv 0) pe_str (fun _ _ => rfl)) (pe_lst pa_nil) (nomark _)) (pss_one (ps_set (i := 4) sc__law_draw.nd rfl (Or.inl rfl) (pe_ix ix_list (pe_dget hu (pv 0) pe_str (fun _ _ => rfl)) (pe_op op_modN (pe_callTy call_int1 (by rfl) T.int boot_int (pa_cons (pv 3) pa_nil)) (pe_callB call_len (by rfl) T.len PySem.boot_len (pa_cons (pe_dget hu (pv 0) pe_str (fun _ _ => rfl)) pa_nil))) (fun _ _ => rfl)))) pss_nil)
      (pss_cons (ps_if (PW.pt (pw_and (pt_cmpR op_lt (pv 3) (pe_callB call_len (by rfl) T.len PySem.boot_len (pa_cons (pe_dget hu (pv 0) pe_str (fun _ _ => rfl)) pa_nil)) (nomark _)) (pw_and1 (pt_cmpR op_ge (pv 4) (pe_op op_pow pe_int pe_int) (nomark _))))) (pss_cons (ps_dput hu (pv 0) pe_str (pe_op op_fdivW (pe_op op_sub (pv 4) (pe_op op_pow pe_int pe_int)) (pv 1)) rfl)
      (pss_one (ps_ret (pe_op op_modN (pe_callTy call_int1 (by rfl) T.int boot_int (pa_cons (pe_op op_sub (pv 4) (pe_op op_pow pe_int pe_int)) pa_nil)) (pv 1))))) pss_nil)
      (pss_cons (ps_set (i := 5) sc__law_draw.nd rfl (Or.inl rfl) (pe_op op_add (pe_op op_add (pe_op op_add (pe_op op_mul (pe_op op_modN (pe_callTy call_int1 (by rfl) T.int boot_int (pa_cons (pv 4) pa_nil)) pe_int) pe_int) (pe_op op_mul (pe_op op_mul pe_int (pv 3)) (pv 3))) (pe_op op_mul pe_int (pv 3))) pe_int))
      (pss_cons (ps_set (i := 5) sc__law_draw.nd rfl (Or.inl rfl) (pe_op op_modN (pe_callTy call_int1 (by rfl) T.int boot_int (pa_cons (pv 5) pa_nil)) pe_int))
      (pss_cons (ps_set (i := 5) sc__law_draw.nd rfl (Or.inl rfl) (pe_op op_modN (pe_callTy call_int1 (by rfl) T.int boot_int (pa_cons (pe_op op_mul (pv 5) (pe_op op_add (pv 5) pe_int)) pa_nil)) pe_int))
      (pss_one (ps_ret (pe_op op_modN (pe_callTy call_int1 (by rfl) T.int boot_int (pa_cons (pe_op op_fdivN (pe_op op_modN (pe_callTy call_int1 (by rfl) T.int boot_int (pa_cons (pe_op op_mul (pv 5) (pv 5)) pa_nil)) pe_int) pe_int) pa_nil)) (pv 1))))))))))))), ?_⟩
    -- if pen['left'] >= many
    refine ⟨_, rfl, p, _, rfl, dget_left h1, _, rfl, _, _, rfl, rfl, _, rfl, ite2 (fun c1 => ?_) (fun c1 => ?_)⟩
    · have c1 : m ≤ l := by simpa using c1
      refine ⟨_, rfl, p, _, rfl, dget_left h1, Or.inl ⟨_, rfl, _, rfl, _, _, rfl, rfl, (by omega), ?_⟩⟩
      refine ⟨_, rfl, p, _, rfl, dget_left h1, _, rfl, _, _, rfl, rfl, ⟨m0, log_lt m0 m1⟩, _, rfl, p, _, rfl, dput_left h1, ?_⟩
      refine ⟨_, rfl, k _ _ (fmod_bounds m0).1 (fmod_bounds m0).2 ⟨a, l / m, cs, ⟨upd_same, by rw [upd_ne ncp]; exact h2, h3, h4, Int.ediv_nonneg h5 (by omega)⟩, by omega⟩ kp_upd⟩
    · -- at; pen['at'] = at + 1; cell = 41 * at + 23
      refine ⟨_, rfl, p, _, rfl, dget_at h1, ?_⟩
      refine ⟨_, rfl, _, _, rfl, rfl, _, rfl, p, _, rfl, dput_at h1, ?_⟩
      have g1 : (L2.upd H p (.dK (penKV c (a + 1) l))) p = some (.dK (penKV c (a + 1) l)) := upd_same
      have g2 : (L2.upd H p (.dK (penKV c (a + 1) l))) c = some (.lst (cs.map V.int)) := by rw [upd_ne ncp]; exact h2
      have gk : Kp p H (L2.upd H p (.dK (penKV c (a + 1) l))) := kp_upd
      revert g1 g2 gk
      generalize L2.upd H p (.dK (penKV c (a + 1) l)) = H1
      intro g1 g2 gk
      refine ⟨_, rfl, _, _, rfl, rfl, Or.inl ⟨by decide, by decide⟩, _, _, rfl, rfl, ?_⟩
      -- the cell
      refine ⟨_, rfl, p, _, rfl, dget_cells g1, (by show 0 ≤ sizeLine; decide), fun q hq => ?_⟩
      have nqp : q ≠ p := (ne_of_none g1 hq).symm
      have nqc : q ≠ c := (ne_of_none g2 hq).symm
      have k1 : (L2.upd H1 q (.lst [])) p = some (.dK (penKV c (a + 1) l)) := by rw [upd_ne nqp.symm]; exact g1
      have k2 : (L2.upd H1 q (.lst [])) c = some (.lst (cs.map V.int)) := by rw [upd_ne nqc.symm]; exact g2
      have kk : Kp p H (L2.upd H1 q (.lst [])) := gk.trans (Kp.of (same_new hq))
      refine ⟨_, _, dp_ints K k2, .lst (SqL.of upd_same) .nil, PySem.W.shaped_ints cs, shaped_nil, _, rfl, ?_⟩
      rw [eqv_ints_nil]
      revert k1 k2 kk
      generalize L2.upd H1 q (.lst []) = H2
      intro k1 k2 kk
      refine ite2 (fun c2 => ?_) (fun c2 => ?_)
      · have hlen : 0 < cs.length := by cases cs with | nil => simp at c2 | cons x r => simp
        have hm := fmod_bounds (x := a) (m := ((cs.map V.int).length : Int)) (by rw [List.length_map]; omega)
        have hj : (a.fmod ((cs.map V.int).length : Int)).toNat < cs.length := by rw [List.length_map] at *; omega
        refine ⟨_, rfl, p, _, rfl, dget_cells k1, _, rfl, Or.inl ⟨_, rfl, _, rfl, p, _, rfl, dget_cells k1, _, _, rfl, Or.inl ⟨_, SqL.of k2, rfl⟩, _, _, rfl, rfl, (by rw [List.length_map]; omega), ?_⟩⟩
        refine ⟨c, _, _, V.int (cs[(a.fmod ((cs.map V.int).length : Int)).toNat]), rfl, rfl, SqL.of k2, ?_, ?_⟩
        · exact at_of (Int.toNat_of_nonneg hm.1).symm (by rw [List.getElem?_map, List.getElem?_eq_getElem hj]; rfl)
        · generalize cs[(a.fmod ((cs.map V.int).length : Int)).toNat] = x
          refine ⟨_, rfl, _, rfl, p, _, rfl, dget_cells k1, V.ref c, _, rfl, Or.inl ⟨_, SqL.of k2, rfl⟩, _, _, rfl, rfl, _, rfl, ite2 (fun c3 => ?_) (fun c3 => ?_)⟩
          · refine ⟨_, rfl, _, _, rfl, rfl, ⟨by decide, by decide, by decide⟩, _, _, rfl, rfl, _, rfl, ite2 (fun c4 => ?_) (fun c4 => ?_)⟩
            · have c4 : (10 : Int) ^ 18 ≤ x := by simpa using c4
              refine ⟨_, rfl, _, _, rfl, rfl, ⟨by decide, by decide, by decide⟩, _, _, rfl, rfl, _, rfl, _, _, rfl, rfl, ⟨m0, log_lt m0 m1⟩, _, rfl, p, _, rfl, dput_left k1, ?_⟩
              refine ⟨_, rfl, _, _, rfl, rfl, ⟨by decide, by decide, by decide⟩, _, _, rfl, rfl, Or.inl ⟨_, rfl, _, rfl, _, _, rfl, rfl, (by omega), ?_⟩⟩
              refine k _ _ (fmod_bounds m0).1 (fmod_bounds m0).2 ⟨a + 1, _, cs, ⟨upd_same, by rw [upd_ne ncp]; exact k2, h3, by omega, Int.ediv_nonneg ?_ (by omega)⟩, by omega⟩ (kk.trans kp_upd)
              show 0 ≤ x - 10 ^ 18
              omega
            · refine ⟨_, rfl, Or.inl ⟨_, rfl, _, _, rfl, rfl, (by show (2147483587 : Int) ≠ 0; decide), _, _, rfl, rfl, Or.inr ⟨by decide, by decide⟩, ?_⟩⟩
              refine ⟨_, rfl, _, _, rfl, rfl, Or.inl ⟨by decide, by decide⟩, _, rfl, _, _, rfl, rfl, Or.inr ⟨by omega, by omega⟩, ?_⟩
              refine ⟨_, _, rfl, rfl, _, rfl, _, _, rfl, rfl, Or.inl ⟨by decide, by decide⟩, _, _, rfl, rfl, _, _, rfl, rfl, ?_⟩
              refine ⟨_, rfl, Or.inl ⟨_, rfl, _, _, rfl, rfl, (by show (2147483629 : Int) ≠ 0; decide), ?_⟩⟩
              have hz := fmod_bounds (x := x.fmod 2147483587 * 48271 + 40014 * a * a + 59 * a + 17) (m := 2147483629) (by decide)
              refine ⟨_, rfl, _, rfl, _, _, rfl, rfl, _, _, rfl, rfl, Or.inl ⟨by omega, by omega⟩, Or.inl ⟨_, rfl, _, _, rfl, rfl, (by show (2147483549 : Int) ≠ 0; decide), ?_⟩⟩
              refine ⟨_, rfl, _, rfl, _, _, rfl, rfl, Or.inl ?_, Or.inl ⟨_, rfl, _, _, rfl, rfl, (by show (2147483579 : Int) ≠ 0; decide), _, _, rfl, rfl, ⟨by decide, by decide⟩, Or.inl ⟨_, rfl, _, rfl, _, _, rfl, rfl, (by omega), ?_⟩⟩⟩
              · have hy := fmod_bounds (x := (x.fmod 2147483587 * 48271 + 40014 * a * a + 59 * a + 17).fmod 2147483629 * ((x.fmod 2147483587 * 48271 + 40014 * a * a + 59 * a + 17).fmod 2147483629 + 69621)) (m := 2147483549) (by decide)
                exact ⟨by omega, by omega⟩
              exact k _ _ (fmod_bounds m0).1 (fmod_bounds m0).2 ⟨a + 1, l, cs, ⟨k1, k2, h3, by omega, h5⟩, by omega⟩ kk
          · refine ⟨_, rfl, Or.inl ⟨_, rfl, _, _, rfl, rfl, (by show (2147483587 : Int) ≠ 0; decide), _, _, rfl, rfl, Or.inr ⟨by decide, by decide⟩, ?_⟩⟩
            refine ⟨_, rfl, _, _, rfl, rfl, Or.inl ⟨by decide, by decide⟩, _, rfl, _, _, rfl, rfl, Or.inr ⟨by omega, by omega⟩, ?_⟩
            refine ⟨_, _, rfl, rfl, _, rfl, _, _, rfl, rfl, Or.inl ⟨by decide, by decide⟩, _, _, rfl, rfl, _, _, rfl, rfl, ?_⟩
            refine ⟨_, rfl, Or.inl ⟨_, rfl, _, _, rfl, rfl, (by show (2147483629 : Int) ≠ 0; decide), ?_⟩⟩
            have hz := fmod_bounds (x := x.fmod 2147483587 * 48271 + 40014 * a * a + 59 * a + 17) (m := 2147483629) (by decide)
            refine ⟨_, rfl, _, rfl, _, _, rfl, rfl, _, _, rfl, rfl, Or.inl ⟨by omega, by omega⟩, Or.inl ⟨_, rfl, _, _, rfl, rfl, (by show (2147483549 : Int) ≠ 0; decide), ?_⟩⟩
            refine ⟨_, rfl, _, rfl, _, _, rfl, rfl, Or.inl ?_, Or.inl ⟨_, rfl, _, _, rfl, rfl, (by show (2147483579 : Int) ≠ 0; decide), _, _, rfl, rfl, ⟨by decide, by decide⟩, Or.inl ⟨_, rfl, _, rfl, _, _, rfl, rfl, (by omega), ?_⟩⟩⟩
            · have hy := fmod_bounds (x := (x.fmod 2147483587 * 48271 + 40014 * a * a + 59 * a + 17).fmod 2147483629 * ((x.fmod 2147483587 * 48271 + 40014 * a * a + 59 * a + 17).fmod 2147483629 + 69621)) (m := 2147483549) (by decide)
              exact ⟨by omega, by omega⟩
            exact k _ _ (fmod_bounds m0).1 (fmod_bounds m0).2 ⟨a + 1, l, cs, ⟨k1, k2, h3, by omega, h5⟩, by omega⟩ kk
      · skip
        refine ⟨_, rfl, _, rfl, p, _, rfl, dget_cells k1, V.ref c, _, rfl, Or.inl ⟨_, SqL.of k2, rfl⟩, _, _, rfl, rfl, _, rfl, ite2 (fun c3 => ?_) (fun c3 => ?_)⟩
        · refine ⟨_, rfl, _, _, rfl, rfl, ⟨by decide, by decide, by decide⟩, _, _, rfl, rfl, _, rfl, ite2 (fun c4 => ?_) (fun c4 => ?_)⟩
          · have c4 : (10 : Int) ^ 18 ≤ 41 * a + 23 := by simpa using c4
            refine ⟨_, rfl, _, _, rfl, rfl, ⟨by decide, by decide, by decide⟩, _, _, rfl, rfl, _, rfl, _, _, rfl, rfl, ⟨m0, log_lt m0 m1⟩, _, rfl, p, _, rfl, dput_left k1, ?_⟩
            refine ⟨_, rfl, _, _, rfl, rfl, ⟨by decide, by decide, by decide⟩, _, _, rfl, rfl, Or.inl ⟨_, rfl, _, rfl, _, _, rfl, rfl, (by omega), ?_⟩⟩
            refine k _ _ (fmod_bounds m0).1 (fmod_bounds m0).2 ⟨a + 1, _, cs, ⟨upd_same, by rw [upd_ne ncp]; exact k2, h3, by omega, Int.ediv_nonneg ?_ (by omega)⟩, by omega⟩ (kk.trans kp_upd)
            show 0 ≤ 41 * a + 23 - 10 ^ 18
            omega
          · refine ⟨_, rfl, Or.inl ⟨_, rfl, _, _, rfl, rfl, (by show (2147483587 : Int) ≠ 0; decide), _, _, rfl, rfl, Or.inr ⟨by decide, by decide⟩, ?_⟩⟩
            refine ⟨_, rfl, _, _, rfl, rfl, Or.inl ⟨by decide, by decide⟩, _, rfl, _, _, rfl, rfl, Or.inr ⟨by omega, by omega⟩, ?_⟩
            refine ⟨_, _, rfl, rfl, _, rfl, _, _, rfl, rfl, Or.inl ⟨by decide, by decide⟩, _, _, rfl, rfl, _, _, rfl, rfl, ?_⟩
            refine ⟨_, rfl, Or.inl ⟨_, rfl, _, _, rfl, rfl, (by show (2147483629 : Int) ≠ 0; decide), ?_⟩⟩
            have hz := fmod_bounds (x := (41 * a + 23).fmod 2147483587 * 48271 + 40014 * a * a + 59 * a + 17) (m := 2147483629) (by decide)
            refine ⟨_, rfl, _, rfl, _, _, rfl, rfl, _, _, rfl, rfl, Or.inl ⟨by omega, by omega⟩, Or.inl ⟨_, rfl, _, _, rfl, rfl, (by show (2147483549 : Int) ≠ 0; decide), ?_⟩⟩
            refine ⟨_, rfl, _, rfl, _, _, rfl, rfl, Or.inl ?_, Or.inl ⟨_, rfl, _, _, rfl, rfl, (by show (2147483579 : Int) ≠ 0; decide), _, _, rfl, rfl, ⟨by decide, by decide⟩, Or.inl ⟨_, rfl, _, rfl, _, _, rfl, rfl, (by omega), ?_⟩⟩⟩
            · have hy := fmod_bounds (x := ((41 * a + 23).fmod 2147483587 * 48271 + 40014 * a * a + 59 * a + 17).fmod 2147483629 * (((41 * a + 23).fmod 2147483587 * 48271 + 40014 * a * a + 59 * a + 17).fmod 2147483629 + 69621)) (m := 2147483549) (by decide)
              exact ⟨by omega, by omega⟩
            exact k _ _ (fmod_bounds m0).1 (fmod_bounds m0).2 ⟨a + 1, l, cs, ⟨k1, k2, h3, by omega, h5⟩, by omega⟩ kk
        · refine ⟨_, rfl, Or.inl ⟨_, rfl, _, _, rfl, rfl, (by show (2147483587 : Int) ≠ 0; decide), _, _, rfl, rfl, Or.inr ⟨by decide, by decide⟩, ?_⟩⟩
          refine ⟨_, rfl, _, _, rfl, rfl, Or.inl ⟨by decide, by decide⟩, _, rfl, _, _, rfl, rfl, Or.inr ⟨by omega, by omega⟩, ?_⟩
          refine ⟨_, _, rfl, rfl, _, rfl, _, _, rfl, rfl, Or.inl ⟨by decide, by decide⟩, _, _, rfl, rfl, _, _, rfl, rfl, ?_⟩
          refine ⟨_, rfl, Or.inl ⟨_, rfl, _, _, rfl, rfl, (by show (2147483629 : Int) ≠ 0; decide), ?_⟩⟩
          have hz := fmod_bounds (x := (41 * a + 23).fmod 2147483587 * 48271 + 40014 * a * a + 59 * a + 17) (m := 2147483629) (by decide)
          refine ⟨_, rfl, _, rfl, _, _, rfl, rfl, _, _, rfl, rfl, Or.inl ⟨by omega, by omega⟩, Or.inl ⟨_, rfl, _, _, rfl, rfl, (by show (2147483549 : Int) ≠ 0; decide), ?_⟩⟩
          refine ⟨_, rfl, _, rfl, _, _, rfl, rfl, Or.inl ?_, Or.inl ⟨_, rfl, _, _, rfl, rfl, (by show (2147483579 : Int) ≠ 0; decide), _, _, rfl, rfl, ⟨by decide, by decide⟩, Or.inl ⟨_, rfl, _, rfl, _, _, rfl, rfl, (by omega), ?_⟩⟩⟩
          · have hy := fmod_bounds (x := ((41 * a + 23).fmod 2147483587 * 48271 + 40014 * a * a + 59 * a + 17).fmod 2147483629 * (((41 * a + 23).fmod 2147483587 * 48271 + 40014 * a * a + 59 * a + 17).fmod 2147483629 + 69621)) (m := 2147483549) (by decide)
            exact ⟨by omega, by omega⟩
          exact k _ _ (fmod_bounds m0).1 (fmod_bounds m0).2 ⟨a + 1, l, cs, ⟨k1, k2, h3, by omega, h5⟩, by omega⟩ kk
/-- the draw, as its callers have it -/
structure TxtD (K : PySem.W.Frag) (mg : Str → Option Value) (fD : Addr) : Prop extends TxtA K mg where
  m_law_draw : mg "_law_draw" = some (.ref fD)
  k_law_draw : PySem.W.keepIn K (.ref fD) = true
abbrev s__law_pick : Stmt := top 21
abbrev N__law_pick : List Str := ["_law_pen_here", "_law_items"]
abbrev P__law_pick : List Str := ["_law_pen_here", "_law_items"]
theorem sc__law_pick : FnScope N__law_pick P__law_pick (defScope s__law_pick) := ⟨rfl, rfl, rfl, by decide +kernel, rfl, by decide +kernel, by decide +kernel⟩

theorem ok_pickL {f fD : Addr} {fd fdD : FuncData} (F : Fun K "_law_pick" "_law_pick" s__law_pick f fd) (T : TxtD K mg fD) (FD : Fun K "_law_draw" "_law_draw" s__law_draw fD fdD) (b_law_draw : Binds K fdD P__law_draw []) : FnOk P w K mg base CX0 2 f fd P__law_pick (spPickL K) := by
  have G_law_draw : FnOk P w K mg base CX0 1 fD fdD P__law_draw spDraw := ok_draw FD T.toTxtA
  refine F.ok sc__law_pick (fun vs H Q E h => ?_) (fun cdv A outer s H vs Q E hr h => ?_)
  · obtain ⟨p, c, a, xs, n, rfl, _⟩ := h
    rfl
  · obtain ⟨p, c, a, xs, n, rfl, hp, hn, hS, h0, h1, k⟩ := h
    refine ⟨_, (pss_one (ps_ret (pe_ix ix_list (pv 1) (pe_call G_law_draw (hr.mono (by decide)) (by rfl) T.m_law_draw T.k_law_draw b_law_draw .nil pass0 (pa_cons (pv 0) (pa_cons (pe_callB call_len (by rfl) T.len PySem.boot_len (pa_cons (pv 1) pa_nil)) pa_nil))) (fun _ _ => rfl)))), ?_⟩
    refine ⟨_, rfl, _, rfl, _, rfl, _, _, rfl, Or.inl ⟨_, hS, rfl⟩, p, c, _, n, rfl, hp, hn, by omega, by omega, fun d H' d0 d1 hp' kk => ?_⟩
    obtain ⟨kvs, hd⟩ := hp.dk
    have hj : d.toNat < xs.length := by omega
    exact ⟨a, xs, d, _, rfl, rfl, kp_seq kk hd hS, at_of (Int.toNat_of_nonneg d0).symm (List.getElem?_eq_getElem hj), k _ _ _ (List.getElem?_eq_getElem hj) hp' kk⟩
theorem ok_pickS {f fD : Addr} {fd fdD : FuncData} (F : Fun K "_law_pick" "_law_pick" s__law_pick f fd) (T : TxtD K mg fD) (FD : Fun K "_law_draw" "_law_draw" s__law_draw fD fdD) (b_law_draw : Binds K fdD P__law_draw []) : FnOk P w K mg base CX0 2 f fd P__law_pick spPickS := by
  have G_law_draw : FnOk P w K mg base CX0 1 fD fdD P__law_draw spDraw := ok_draw FD T.toTxtA
  refine F.ok sc__law_pick (fun vs H Q E h => ?_) (fun cdv A outer s H vs Q E hr h => ?_)
  · obtain ⟨p, c, z, n, rfl, _⟩ := h
    rfl
  · obtain ⟨p, c, z, n, rfl, hp, hn, h0, h1, k⟩ := h
    refine ⟨_, (pss_one (ps_ret (pe_ix ix_str (pv 1) (pe_call G_law_draw (hr.mono (by decide)) (by rfl) T.m_law_draw T.k_law_draw b_law_draw .nil pass0 (pa_cons (pv 0) (pa_cons (pe_callB call_len (by rfl) T.len PySem.boot_len (pa_cons (pv 1) pa_nil)) pa_nil))) (fun _ _ => rfl)))), ?_⟩
    have hz : z.length ≤ sizeLine := Nat.le_of_lt (small1000 h1)
    refine ⟨_, rfl, _, rfl, _, rfl, _, _, rfl, ⟨hz, rfl⟩, p, c, _, n, rfl, hp, hn, by omega, by omega, fun d H' d0 d1 hp' kk => ?_⟩
    have hj : d.toNat < (TL.tl z).length := by rw [← TL.len_tl]; omega
    exact ⟨z, d, _, rfl, rfl, hz, at_of' (Int.toNat_of_nonneg d0).symm (List.getElem?_eq_getElem hj), k _ _ _ (List.getElem?_eq_getElem hj) hp' kk⟩
end
end Vf
set_option Elab.async false
set_option linter.all false
set_option maxRecDepth 100000
set_option maxHeartbeats 4000000
namespace Vf
open PySem L2 PyProof.Rows
section
variable {P : Program} {w : World} {K : PySem.W.Frag} {mg : Str → Option Value} {base : Heap}
/-- the pick too -/
structure TxtP (K : PySem.W.Frag) (mg : Str → Option Value) (fD fP : Addr) : Prop extends TxtD K mg fD where
  m_law_pick : mg "_law_pick" = some (.ref fP)
  k_law_pick : PySem.W.keepIn K (.ref fP) = true
abbrev s__law_letters : Stmt := top 22
abbrev N__law_letters : List Str := ["_law_pen_here", "_law_many", "_law_left", "_law_found", "_law_turn", "_law_at"]
abbrev P__law_letters : List Str := ["_law_pen_here", "_law_many"]
theorem sc__law_letters : FnScope N__law_letters P__law_letters (defScope s__law_letters) := ⟨rfl, rfl, rfl, by decide +kernel, rfl, by decide +kernel, by decide +kernel⟩

theorem ok_letters {f fD : Addr} {fd fdD : FuncData} (F : Fun K "_law_letters" "_law_letters" s__law_letters f fd) (T : TxtD K mg fD) (FD : Fun K "_law_draw" "_law_draw" s__law_draw fD fdD) (b_law_draw : Binds K fdD P__law_draw []) : FnOk P w K mg base CX0 2 f fd P__law_letters spLetters := by
  have G_law_draw : FnOk P w K mg base CX0 1 fD fdD P__law_draw spDraw := ok_draw FD T.toTxtA
  refine F.ok sc__law_letters (fun vs H Q E h => ?_) (fun cdv A outer s H vs Q E hr h => ?_)
  · obtain ⟨p, c, m, n, rfl, _⟩ := h
    rfl
  · obtain ⟨p, c, m, n, rfl, hp, hn, hm, k⟩ := h
    refine ⟨_, (pss_cons (ps_par (i := 2) (j := 3) (by rfl) sc__law_letters.nd rfl rfl (by decide) rfl rfl (pa_cons pe_str (pa_cons (pe_lst pa_nil) pa_nil)) (by rfl))
      (pss_cons (ps_for PassesOwn.never rfl (pi_range1 (by rfl) T.range (pa_cons (pv 1) pa_nil)) (pg_name (i := 4) sc__law_letters.nd rfl (Or.inl rfl)) (pss_cons (ps_set (i := 5) sc__law_letters.nd rfl (Or.inl rfl) (pe_call G_law_draw (hr.mono (by decide)) (by rfl) T.m_law_draw T.k_law_draw b_law_draw .nil pass0 (pa_cons (pv 0) (pa_cons (pe_callB call_len (by rfl) T.len PySem.boot_len (pa_cons (pv 2) pa_nil)) pa_nil))))
      (pss_cons (ps_set (i := 3) sc__law_letters.nd rfl (Or.inl rfl) (pe_op op_cat (pv 3) (pe_lst (pa_cons (pe_ix ix_str (pv 2) (pv 5) (fun _ _ => rfl)) pa_nil))))
      (pss_one (ps_set (i := 2) sc__law_letters.nd rfl (Or.inl rfl) (pe_op op_add_str (pe_slice sl_str (pv 2) po_none (po_some (pv 5))) (pe_slice sl_str (pv 2) (po_some (pe_op op_add (pv 5) pe_int)) po_none)))))))
      (pss_one (ps_ret (pe_join pe_str (pe_callB cr_sortedS (by rfl) T.sorted boot_sorted (pa_cons (pv 3) pa_nil))))))), ?_⟩
    refine ⟨by show 0 ≤ sizeLine; decide, fun F0 hF => ⟨_, _, rfl, ?_⟩⟩
    have hFp : F0 ≠ p := by
      obtain ⟨kvs, hd⟩ := hp.dk
      exact (ne_of_none hd hF).symm
    refine ⟨_, rfl, (m : Int), rfl, by omega, by omega, for_range (n := m) (fun i σ H1 => ∃ (F1 : Addr) (L : Str) (fs : List Nat) (v4 v5 : Option V), σ = [some (.ref p), some (.int m), some (.str L), some (.ref F1), v4, v5] ∧
      H1 F1 = some (.lst ((fs.map sg).map V.str)) ∧ fs.length = i ∧ (fs ++ TL.tl L).Perm alpha ∧ Pen H1 p c (n + i) ∧ Kp p H H1)
      ⟨F0, _, [], none, none, rfl, upd_same, rfl, List.Perm.refl _, hp.same (same_new hF), Kp.of (same_new hF)⟩ ?_ ?_⟩
    · rintro i σ H1 hi ⟨F1, L, fs, v4, v5, rfl, hF1, hlen, hperm, hp1, kk⟩
      have hL : L.length = 26 - i := by
        have := hperm.length_eq
        rw [List.length_append, alpha_len, ← TL.len_tl] at this
        omega
      have hLz : L.length ≤ sizeLine := Nat.le_of_lt (small1000 (by omega))
      refine ⟨_, rfl, _, rfl, _, _, rfl, ⟨hLz, rfl⟩, p, c, _, n + i, rfl, hp1, by omega, by omega, by omega, fun d H2 d0 d1 hp2 kk2 => ?_⟩
      have hj : d.toNat < (TL.tl L).length := by rw [← TL.len_tl]; omega
      have hF2 : H2 F1 = some (.lst ((fs.map sg).map V.str)) := by
        obtain ⟨kvs, hd⟩ := hp1.dk
        exact kk2 _ _ hF1 (ne_of hF1 hd (by intro z; cases z))
      have ed : d = (d.toNat : Int) := (Int.toNat_of_nonneg d0).symm
      refine ⟨_, rfl, _, rfl, _, rfl, L, d, _, rfl, rfl, hLz, at_of' ed (List.getElem?_eq_getElem hj), (by show 1 ≤ sizeLine; decide), fun q hq => ?_⟩
      have s2 : Same H2 (L2.upd H2 q (.lst [V.str (sg (TL.tl L)[d.toNat])])) := same_new hq
      refine ⟨F1, q, _, _, rfl, rfl, s2 _ _ hF2, upd_same, (by rw [List.length_map, List.length_map]; show fs.length + 1 ≤ sizeLine; exact Nat.le_of_lt (small1000 (by omega))), fun r hr2 => ?_⟩
      have s3 : Same H2 (L2.upd (L2.upd H2 q (.lst [V.str (sg (TL.tl L)[d.toNat])])) r (.lst ((fs.map sg).map V.str ++ [V.str (sg (TL.tl L)[d.toNat])]))) := s2.trans (same_new hr2)
      -- left = left[:at] + left[at + 1:]
      have hjl : d.toNat < L.length := by omega
      have t1 : TL.tl (cutS L none (some d)) = (TL.tl L).take d.toNat := by rw [ed]; exact cut_to (by omega)
      have t2 : TL.tl (cutS L (some (d + 1)) none) = (TL.tl L).drop (d.toNat + 1) := by
        have e1 : d + 1 = ((d.toNat + 1 : Nat) : Int) := by omega
        rw [e1]; exact cut_from (by omega)
      refine ⟨_, rfl, _, rfl, d, rfl, L, rfl, hLz, _, rfl, _, rfl, _, _, rfl, rfl, _, rfl, L, rfl, hLz, _, _, rfl, rfl, ?_, ?_⟩
      · rw [TL.len_tl, TL.len_tl, t1, t2, List.length_take, List.length_drop, ← TL.len_tl, sizeLine_eq]
        rw [sizeLine_eq] at hLz
        omega
      · refine ⟨r, _, fs ++ [(TL.tl L)[d.toNat]], _, _, rfl, ?_, ?_, ?_, ?_, ?_⟩
        · rw [upd_same, List.map_append, List.map_append]; rfl
        · rw [List.length_append, hlen]; rfl
        · rw [TL.tl_append, t1, t2]
          have e2 : (TL.tl L).take d.toNat ++ ((TL.tl L)[d.toNat]'hj) :: (TL.tl L).drop (d.toNat + 1) = TL.tl L := by
            rw [← List.drop_eq_getElem_cons hj, List.take_append_drop]
          refine List.Perm.trans ?_ hperm
          conv => rhs; rw [← e2]
          rw [List.append_assoc]
          exact List.Perm.append_left _ (List.perm_middle (a := (TL.tl L)[d.toNat]'hj) (l₁ := (TL.tl L).take d.toNat) (l₂ := (TL.tl L).drop (d.toNat + 1))).symm
        · exact hp2.same s3
        · exact kk.trans (kk2.trans (Kp.of s3))
    · rintro σ H1 ⟨F1, L, fs, v4, v5, rfl, hF1, hlen, hperm, hp1, kk⟩
      refine ⟨⟨_, rfl⟩, _, rfl, F1, fs.map sg, rfl, SqL.of hF1, by rw [List.length_map]; omega, fun ys q hperm2 hsort hq => ?_⟩
      obtain ⟨ds, rfl, hd⟩ := perm_sg hperm2
      have hl := ltr_of hperm hd (sorted_sg hsort)
      have hdl : ds.length = m := hd.length_eq.trans hlen
      refine ⟨_, q, ds.map sg, rfl, rfl, Or.inl (SqL.of upd_same), ?_, ?_⟩
      · rw [sum_sg]
        show ds.length + (ds.map sg).length * 0 ≤ 16777216
        omega
      · have e : TL.tl (Txt.join (Str.ofString "") (ds.map sg)) = ds := join_sg ds
        refine k _ _ ⟨by rw [TL.len_tl, e]; exact hdl, by rw [e]; exact hl.1, by rw [e]; exact hl.2⟩ (hp1.same (same_new hq)) (kk.trans (Kp.of (same_new hq)))
abbrev s__law_bits : Stmt := top 23
abbrev N__law_bits : List Str := ["_law_pen_here"]
abbrev P__law_bits : List Str := ["_law_pen_here"]
theorem sc__law_bits : FnScope N__law_bits P__law_bits (defScope s__law_bits) := ⟨rfl, rfl, rfl, by decide +kernel, rfl, by decide +kernel, by decide +kernel⟩

theorem ok_bits {f fD fP : Addr} {fd fdD fdP : FuncData} (F : Fun K "_law_bits" "_law_bits" s__law_bits f fd) (T : TxtP K mg fD fP) (FD : Fun K "_law_draw" "_law_draw" s__law_draw fD fdD) (b_law_draw : Binds K fdD P__law_draw [])
    (FP : Fun K "_law_pick" "_law_pick" s__law_pick fP fdP) (b_law_pick : Binds K fdP P__law_pick []) : FnOk P w K mg base CX0 3 f fd P__law_bits spBits := by
  have G_law_draw : FnOk P w K mg base CX0 1 fD fdD P__law_draw spDraw := ok_draw FD T.toTxtA
  have G_law_pick : FnOk P w K mg base CX0 2 fP fdP P__law_pick (spPickL K) := ok_pickL FP T.toTxtD FD b_law_draw
  refine F.ok sc__law_bits (fun vs H Q E h => ?_) (fun cdv A outer s H vs Q E hr h => ?_)
  · obtain ⟨p, c, n, rfl, _⟩ := h
    rfl
  · obtain ⟨p, c, n, rfl, hp, hn, k⟩ := h
    refine ⟨_, (pss_one (ps_ret (pe_call G_law_pick (hr.mono (by decide)) (by rfl) T.m_law_pick T.k_law_pick b_law_pick .nil pass0 (pa_cons (pv 0) (pa_cons (pe_lst (pa_cons pe_int (pa_cons pe_int (pa_cons pe_int (pa_cons pe_int (pa_cons pe_int (pa_cons pe_int (pa_cons pe_int (pa_cons pe_int (pa_cons (pe_call G_law_draw (hr.mono (by decide)) (by rfl) T.m_law_draw T.k_law_draw b_law_draw .nil pass0 (pa_cons (pv 0) (pa_cons pe_int pa_nil))) (pa_cons (pe_call G_law_draw (hr.mono (by decide)) (by rfl) T.m_law_draw T.k_law_draw b_law_draw .nil pass0 (pa_cons (pv 0) (pa_cons pe_int pa_nil))) pa_nil))))))))))) pa_nil))))), ?_⟩
    refine ⟨_, rfl, _, rfl, p, c, _, n, rfl, hp, by omega, by decide, by decide, fun x H1 x0 x1 hp1 k1 => ?_⟩
    refine ⟨_, rfl, p, c, _, n + 1, rfl, hp1, by omega, by decide, by decide, fun y H2 y0 y1 hp2 k2 => ⟨by show 10 ≤ sizeLine; decide, fun q hq => ?_⟩⟩
    refine ⟨p, c, q, _, n + 2, rfl, hp2.same (same_new hq), by omega, SqL.of upd_same, (by show 0 < 10; decide), (by show 10 ≤ 1000; decide), fun j v H3 hv hp3 k3 => ?_⟩
    have kk : Kp p H H3 := (k1.trans k2).trans ((Kp.of (same_new hq)).trans k3)
    have hm := List.mem_of_getElem? hv
    simp only [List.mem_cons, List.not_mem_nil, or_false] at hm
    rcases hm with e | e | e | e | e | e | e | e | e | e <;> (subst e; exact k _ _ (by omega) (by omega) hp3 kk)
end
end Vf
set_option Elab.async false
set_option linter.all false
set_option maxRecDepth 100000
set_option maxHeartbeats 4000000
namespace Vf
open PySem L2 PyProof.Rows
/-- a drawn code -/
def spCode (K : PySem.W.Frag) : Sp := fun vs H Q _ => ∃ (p c : Addr) (z : Str) (most : Int) (n : Nat), vs = [.ref p, .str z, .int most] ∧ Pen H p c n ∧ n ≤ 2 ^ 28 ∧ 1 ≤ most ∧ most ≤ 40 ∧ z.length ≤ 26 ∧
  ∀ (t : V) (rs : List Row) (es : List Int) (H' : Hp), Dp K H' t (codeD z rs es) → Good z.length rs es → (rs.length : Int) ≤ most → Pen H' p c (n + 5000) → Kp p H H' → Q t H'
/-- bits too -/
structure TxtB (K : PySem.W.Frag) (mg : Str → Option Value) (fD fP fB : Addr) : Prop extends TxtP K mg fD fP where
  m_law_bits : mg "_law_bits" = some (.ref fB)
  k_law_bits : PySem.W.keepIn K (.ref fB) = true
section
variable {P : Program} {w : World} {K : PySem.W.Frag} {mg : Str → Option Value} {base : Heap}
abbrev s__law_code : Stmt := top 24
abbrev N__law_code : List Str := ["_law_pen_here", "_law_letters_here", "_law_most", "_law_count", "_law_rows", "_law_state", "_law_row", "_law_letter", "_law_goal"]
abbrev P__law_code : List Str := ["_law_pen_here", "_law_letters_here", "_law_most"]
theorem sc__law_code : FnScope N__law_code P__law_code (defScope s__law_code) := ⟨rfl, rfl, rfl, by decide +kernel, rfl, by decide +kernel, by decide +kernel⟩

theorem ok_code {f fD fP fB : Addr} {fd fdD fdP fdB : FuncData} (F : Fun K "_law_code" "_law_code" s__law_code f fd) (T : TxtB K mg fD fP fB) (FD : Fun K "_law_draw" "_law_draw" s__law_draw fD fdD) (b_law_draw : Binds K fdD P__law_draw [])
    (FP : Fun K "_law_pick" "_law_pick" s__law_pick fP fdP) (b_law_pick : Binds K fdP P__law_pick []) (FB : Fun K "_law_bits" "_law_bits" s__law_bits fB fdB) (b_law_bits : Binds K fdB P__law_bits []) : FnOk P w K mg base CX0 4 f fd P__law_code (spCode K) := by
  have G_law_draw : FnOk P w K mg base CX0 1 fD fdD P__law_draw spDraw := ok_draw FD T.toTxtA
  have G_law_bits : FnOk P w K mg base CX0 3 fB fdB P__law_bits spBits := ok_bits FB T.toTxtP FD b_law_draw FP b_law_pick
  refine F.ok sc__law_code (fun vs H Q E h => ?_) (fun cdv A outer s H vs Q E hr h => ?_)
  · obtain ⟨p, c, z, most, n, rfl, _⟩ := h
    rfl
  · obtain ⟨p, c, z, most, n, rfl, hp, hn, hm1, hm2, hz, k⟩ := h
    refine ⟨_, (pss_cons (ps_par (i := 3) (j := 4) (by rfl) sc__law_code.nd rfl rfl (by decide) rfl rfl (pa_cons (pe_op op_add pe_int (pe_call G_law_draw (hr.mono (by decide)) (by rfl) T.m_law_draw T.k_law_draw b_law_draw .nil pass0 (pa_cons (pv 0) (pa_cons (pv 2) pa_nil)))) (pa_cons (pe_lst pa_nil) pa_nil)) (by rfl))
      (pss_cons (ps_for PassesOwn.never rfl (pi_range1 (by rfl) T.range (pa_cons (pv 3) pa_nil)) (pg_name (i := 5) sc__law_code.nd rfl (Or.inl rfl)) (pss_cons (ps_set (i := 6) sc__law_code.nd rfl (Or.inl rfl) (pe_lst pa_nil))
      (pss_cons (ps_for PassesOwn.never rfl (pi_str (pv 1)) (pg_name (i := 7) sc__law_code.nd rfl (Or.inl rfl)) (pss_cons (ps_set (i := 8) sc__law_code.nd rfl (Or.inl rfl) (pe_call G_law_draw (hr.mono (by decide)) (by rfl) T.m_law_draw T.k_law_draw b_law_draw .nil pass0 (pa_cons (pv 0) (pa_cons (pv 3) pa_nil))))
      (pss_one (ps_expr (pe_bm PySem.F.plainAttrs_list PySem.F.slot_list_append PySem.F.type_list_append mt_append (pv 6) (pa_cons (pe_tup (pa_cons (pv 8) (pa_cons (pe_call G_law_bits (hr.mono (by decide)) (by rfl) T.m_law_bits T.k_law_bits b_law_bits .nil pass0 (pa_cons (pv 0) pa_nil)) pa_nil))) pa_nil))))))
      (pss_one (ps_expr (pe_bm PySem.F.plainAttrs_list PySem.F.slot_list_append PySem.F.type_list_append mt_append (pv 4) (pa_cons (pv 6) pa_nil)))))))
      (pss_one (ps_ret (pe_tup (pa_cons (pv 1) (pa_cons (pv 4) (pa_cons (pe_lc (own := [("_law_state", 5)]) (g := gName 5) (by rfl) sc__law_code.nd (pi_range1 (by rfl) T.range (pa_cons (pv 3) pa_nil)) (blkOk_by (own := [("_law_state", 5)]) (N := N__law_code) (sc := defScope s__law_code) (by decide +kernel)) (fun _ _ _ _ _ => pg_name (i := 5) sc__law_code.nd rfl (Or.inl rfl)) (fun _ _ _ _ _ => pts_nil) (fun _ _ _ _ _ => (pe_call G_law_bits (hr.mono (by decide)) (by rfl) T.m_law_bits T.k_law_bits b_law_bits .nil pass0 (pa_cons (pv 0) pa_nil)))) pa_nil)))))))), ?_⟩
    refine ⟨_, rfl, _, rfl, p, c, _, n, rfl, hp, by omega, by omega, by omega, fun d H1 d0 d1 hp1 k1 => ⟨_, _, rfl, rfl, by show 0 ≤ sizeLine; decide, fun R hR => ⟨_, _, rfl, ?_⟩⟩⟩
    obtain ⟨nRp, nRc⟩ := hp1.new hR
    have hRn : H R = none := k1.free hp1 hR
    refine ⟨_, rfl, 1 + d, rfl, by omega, by omega, for_range (n := (1 + d).toNat) (fun i σ H2 => ∃ (rs : List V) (data : List Row) (v5 v6 v7 v8 : Option V), σ = [some (.ref p), some (.str z), some (.int most), some (.int (1 + d)), some (.ref R), v5, v6, v7, v8] ∧
      H2 R = some (.lst rs) ∧ DpAll K (L2.del H2 R) rs (data.map rowD) ∧ data.length = i ∧ (∀ r ∈ data, RowOk z.length (1 + d) r) ∧ Pen H2 p c (n + 1 + i * 104) ∧ Kp p H H2)
      ⟨[], [], none, none, none, none, rfl, upd_same, .nil, rfl, (fun r hr => nomatch hr), hp1.same (same_new hR), k1.trans (Kp.of (same_new hR))⟩ ?_ ?_⟩
    · rintro i σ H2 hi ⟨rs, data, v5, v6, v7, v8, rfl, hR2, hD, hl, hok, hp2, k2⟩
      refine ⟨by show 0 ≤ sizeLine; decide, fun r hr2 => ?_⟩
      have nrR : r ≠ R := (ne_of_none hR2 hr2).symm
      obtain ⟨nrp, nrc⟩ := hp2.new hr2
      have hrn : H r = none := k2.free hp2 hr2
      have e0 : Kl (L2.del H2 R) (L2.del (L2.del (L2.upd H2 r (.lst [])) R) r) := fun b o e _ => by
        obtain ⟨h1, h2⟩ := del_some e
        have h3 : b ≠ r := ne_of_none h2 hr2
        rw [del_ne h3, del_ne h1, upd_ne h3]
        exact h2
      refine ⟨_, rfl, z, rfl, for_it walk_strS (fun j σ H3 => ∃ (ts : List V) (row : Row) (v7 v8 : Option V), σ = [some (.ref p), some (.str z), some (.int most), some (.int (1 + d)), some (.ref R), some (.int (0 + i)), some (.ref r), v7, v8] ∧
        H3 R = some (.lst rs) ∧ H3 r = some (.lst ts) ∧ DpAll K (L2.del (L2.del H3 R) r) rs (data.map rowD) ∧ DpAll K (L2.del (L2.del H3 R) r) ts (row.map tupD) ∧ row.length = j ∧ (∀ gb ∈ row, 0 ≤ gb.1 ∧ gb.1 < 1 + d ∧ 0 ≤ gb.2 ∧ gb.2 < 100) ∧ Pen H3 p c (n + 1 + i * 104 + j * 4) ∧ Kp p H H3)
        ⟨[], [], v7, v8, rfl, by rw [upd_ne nrR.symm]; exact hR2, upd_same, hD.mv e0, .nil, rfl, (fun r hr => nomatch hr), hp2.same (same_new hr2), k2.trans (Kp.of (same_new hr2))⟩ (fun _ _ _ _ _ => trivial) ?_ ?_⟩
      · rintro j x σ H3' H3 hj ⟨ts, row, v7, v8, rfl, hR3, hr3, hD1, hD2, hl2, hok2, hp3, k3⟩ ⟨rfl, cc, hcc, rfl⟩
        refine ⟨_, rfl, _, rfl, p, c, _, _, rfl, hp3, by omega, by omega, by omega, fun g H4 g0 g1 hp4 k4 => ?_⟩
        obtain ⟨kvs, hpk⟩ := hp3.dk
        have hR4 := k4 _ _ hR3 nRp
        have hr4 := k4 _ _ hr3 nrp
        refine ⟨_, rfl, Or.inl ⟨rfl, _, SqL.of hr4⟩, _, rfl, _, rfl, p, c, _, rfl, hp4, by omega, fun b H5 b0 b1 hp5 k5 => ⟨by show 2 ≤ sizeLine; decide, fun q hq => ?_⟩⟩
        have hr5 := k5 _ _ hr4 nrp
        have hR5 := k5 _ _ hR4 nRp
        have nqr : q ≠ r := (ne_of_none hr5 hq).symm
        have nqR : q ≠ R := (ne_of_none hR5 hq).symm
        refine ⟨r, ts, .ref q, rfl, rfl, by rw [upd_ne nqr.symm]; exact hr5, ?_, ?_⟩
        · rw [hD2.length, List.length_map]
          exact small1000 (by omega)
        have e1 : Kl (L2.del (L2.del H3 R) r) (L2.del (L2.del (L2.upd (L2.upd H5 q (.tup [.int g, .int b])) r (.lst (ts ++ [.ref q]))) R) r) :=
          (((Kl.kp (k4.trans k5) hpk).del R).del r).trans fun c o e _ => by
            obtain ⟨h1, h2⟩ := del_some e
            obtain ⟨h3, h4⟩ := del_some h2
            rw [del_ne h1, del_ne h3, upd_ne h1, upd_ne (ne_of_none h4 hq)]
            exact h4
        refine ⟨ts ++ [.ref q], row ++ [(g, b)], _, _, rfl, ?_, upd_same, hD1.mv e1, ?_, ?_, ?_, ?_, ?_⟩
        · rw [upd_ne nrR.symm, upd_ne nqR.symm]; exact hR5
        · rw [List.map_append]
          refine (hD2.mv e1).snoc (.tup (SqT.of ?_) (.cons (.int g) (.cons (.int b) .nil)))
          rw [del_ne nqr, del_ne nqR, upd_ne nqr, upd_same]
        · rw [List.length_append, hl2]; rfl
        · intro gb hgb
          rcases List.mem_append.mp hgb with h | h
          · exact hok2 gb h
          · rw [List.mem_singleton.mp h]; exact ⟨g0, g1, b0, b1⟩
        · exact ((hp5.same (same_new hq)).put nrp nrc).mono (by omega)
        · exact (((k3.trans k4).trans k5).trans (Kp.of (same_new hq))).put hrn
      · rintro σ H3 ⟨ts, row, v7, v8, rfl, hR3, hr3, hD1, hD2, hl2, hok2, hp3, k3⟩
        refine ⟨_, rfl, Or.inl ⟨rfl, _, SqL.of hR3⟩, _, rfl, R, rs, .ref r, rfl, rfl, hR3, ?_, ?_⟩
        · rw [hD1.length, List.length_map, hl]
          exact small1000 (by omega)
        refine ⟨rs ++ [.ref r], data ++ [row], _, _, _, _, rfl, upd_same, ?_, ?_, ?_, ?_, ?_⟩
        · rw [del_upd, List.map_append]
          refine (hD1.mv (Kl.undel _ _)).snoc (.lst (SqL.of ?_) (hD2.mv (Kl.undel _ _)))
          rw [del_ne nrR]; exact hr3
        · rw [List.length_append, hl]; rfl
        · intro y hy
          rcases List.mem_append.mp hy with h | h
          · exact hok y h
          · rw [List.mem_singleton.mp h]; exact ⟨hl2, hok2⟩
        · exact (hp3.put nRp nRc).mono (by omega)
        · exact k3.put hRn
    · rintro σ H2 ⟨rs, data, v5, v6, v7, v8, rfl, hR2, hD, hl, hok, hp2, k2⟩
      refine ⟨_, rfl, _, rfl, _, rfl, 1 + d, rfl, by omega, by omega, fun D hD0 => lc_range (n := (1 + d).toNat) (fun j H3 => ∃ es : List Int, H3 D = some (.lst (es.map V.int)) ∧ es.length = j ∧ (∀ e ∈ es, 0 ≤ e ∧ e < 100) ∧
        H3 R = some (.lst rs) ∧ DpAll K (L2.del (L2.del H3 R) D) rs (data.map rowD) ∧ Pen H3 p c (n + 1 + (1 + d).toNat * 104 + j * 3) ∧ Kp p H H3)
        ⟨[], upd_same, rfl, (fun e he => nomatch he), ?_, ?_, hp2.same (same_new hD0), k2.trans (Kp.of (same_new hD0))⟩ ?_ ?_⟩
      · rw [upd_ne (ne_of_none hR2 hD0)]; exact hR2
      · refine hD.mv fun b o e _ => ?_
        obtain ⟨h1, h2⟩ := del_some e
        have h3 : b ≠ D := ne_of_none h2 hD0
        rw [del_ne h3, del_ne h1, upd_ne h3]
        exact h2
      · rintro j H3 hj ⟨es, hD3, hl3, hok3, hR3, hDp, hp3, k3⟩
        obtain ⟨nDp, nDc⟩ := hp2.new hD0
        have hDn : H D = none := k2.free hp2 hD0
        have nDR : D ≠ R := (ne_of_none hR2 hD0).symm
        refine ⟨rfl, ?_⟩
        refine lcYes ?_
        refine ⟨_, rfl, p, c, _, rfl, hp3, by omega, fun b H4 b0 b1 hp4 k4 => ⟨es.map V.int, k4 _ _ hD3 nDp, ?_, es ++ [b], ?_, ?_, ?_, ?_, ?_, ?_, ?_⟩⟩
        · rw [List.length_map, hl3]; exact small1000 (by omega)
        · rw [upd_same, List.map_append]; rfl
        · rw [List.length_append, hl3]; rfl
        · intro y hy
          rcases List.mem_append.mp hy with h | h
          · exact hok3 y h
          · rw [List.mem_singleton.mp h]; exact ⟨b0, b1⟩
        · rw [upd_ne nDR.symm]; exact k4 _ _ hR3 nRp
        · obtain ⟨kvs, hpk⟩ := hp3.dk
          refine hDp.mv ((((Kl.kp k4 hpk).del R).del D).trans fun b o e _ => ?_)
          obtain ⟨h1, h2⟩ := del_some e
          rw [del_ne h1] at e ⊢
          obtain ⟨h3, h4⟩ := del_some h2
          rw [del_ne h3, upd_ne h1]
          exact h4
        · exact (hp4.put nDp nDc).mono (by omega)
        · exact (k3.trans k4).put hDn
      · rintro H3 ⟨es, hD3, hl3, hok3, hR3, hDp, hp3, k3⟩
        refine ⟨by show 3 ≤ sizeLine; decide, fun t ht => ?_⟩
        have st : Same H3 (L2.upd H3 t (.tup [.str z, .ref R, .ref D])) := same_new ht
        refine k _ data es _ (.tup (SqT.of upd_same) (.cons (.str z) (.cons (.lst (SqL.of (st _ _ hR3)) (hDp.mv (((Kl.undel _ _).trans (Kl.undel _ _)).trans (Kl.same st)))) (.cons (.lst (SqL.of (st _ _ hD3)) (dpAll_ints _ _ _)) .nil)))) ⟨?_, ?_, fun r hr => ?_, hok3⟩ ?_ ?_ ?_
        · rw [hl3, hl]
        · omega
        · obtain ⟨h1, h2⟩ := hok r hr
          refine ⟨h1, fun gb hgb => ?_⟩
          obtain ⟨a1, a2, a3, a4⟩ := h2 gb hgb
          exact ⟨a1, by omega, a3, a4⟩
        · omega
        · exact (hp3.same st).mono (by omega)
        · exact k3.trans (Kp.of st)
end
end Vf
set_option Elab.async false
set_option linter.all false
set_option maxRecDepth 100000
set_option maxHeartbeats 4000000
namespace Vf
open PySem L2 PyProof.Rows
section
variable {P : Program} {w : World} {K : PySem.W.Frag} {mg : Str → Option Value} {base : Heap}
structure TxtC (K : PySem.W.Frag) (mg : Str → Option Value) : Prop where
  len : mg "len" = none
  any : mg "any" = none
  tuple : mg "tuple" = none
  enumerate : mg "enumerate" = none
/-- the first place of a sign of y that is none of z's -/
def strange (z y : Str) : Option Nat := (TL.tl y).findIdx? fun c => decide (c ∉ TL.tl z)
def spStrange : Sp := fun vs H Q _ => ∃ z y : Str, vs = [.str z, .str y] ∧ ∀ H', Same H H' → Q (match strange z y with | none => .non | some i => .int i) H'
abbrev s_strange_place : Stmt := top 8
abbrev N_strange_place : List Str := ["letters", "text", "place", "letter"]
abbrev P_strange_place : List Str := ["letters", "text"]
theorem sc_strange_place : FnScope N_strange_place P_strange_place (defScope s_strange_place) := ⟨rfl, rfl, rfl, by decide +kernel, rfl, by decide +kernel, by decide +kernel⟩

theorem ok_strange {f : Addr} {fd : FuncData} (F : Fun K "strange_place" "strange_place" s_strange_place f fd) (T : TxtC K mg) : FnOk P w K mg base CX0 1 f fd P_strange_place spStrange := by
  refine F.ok sc_strange_place (fun vs H Q E h => ?_) (fun cdv A outer s H vs Q E hr h => ?_)
  · obtain ⟨z, y, rfl, _⟩ := h
    rfl
  · obtain ⟨z, y, rfl, k⟩ := h
    refine ⟨_, (pss_cons (ps_for PassesOwn.never rfl (pi_enumS (by rfl) T.enumerate (pa_cons (pv 1) pa_nil)) (pg_tup (by rfl) (pgs_cons (pg_name (i := 2) sc_strange_place.nd rfl (Or.inl rfl)) (pgs_cons (pg_name (i := 3) sc_strange_place.nd rfl (Or.inl rfl)) pgs_nil))) (pss_one (ps_if (pt_cmpR op_notIn_sign (pv 3) (pv 0) (by rfl)) (pss_one (ps_ret (pv 2))) pss_nil)))
      (pss_one (ps_ret pe_non))), ?_⟩
    refine ⟨_, rfl, y, rfl, for_it walk_enumS (fun i σ H1 => ∃ v2 v3 : Option V, σ = [some (.str z), some (.str y), v2, v3] ∧ Same H H1 ∧ ∀ j c, j < i → (TL.tl y)[j]? = some c → c ∈ TL.tl z)
      ⟨none, none, rfl, Same.refl H, fun j c h => absurd h (Nat.not_lt_zero _)⟩ (fun _ _ _ _ _ => trivial) ?_ ?_⟩
    · rintro i x σ H1 H2 hi ⟨v2, v3, rfl, s1, hj⟩ ⟨q, c, rfl, hq, rfl, hc⟩
      refine ⟨q, _, rfl, SqT.of upd_same, rfl, _, _, rfl, _, _, rfl, rfl, _, rfl, _, rfl, c, z, rfl, rfl, _, rfl, ite2 (fun h1 => ?_) (fun h1 => ?_)⟩
      · have h1 : c ∉ TL.tl z := by simpa using h1
        refine ⟨_, rfl, ?_⟩
        have e : strange z y = some i := by
          obtain ⟨hlt, he⟩ := List.getElem?_eq_some_iff.mp hc
          refine List.findIdx?_eq_some_iff_getElem.mpr ⟨hlt, by simp [he, h1], fun j hji => ?_⟩
          have := hj j _ hji (List.getElem?_eq_getElem (by omega))
          simpa using this
        have := k _ (s1.trans (same_new (o := .tup [.int (i : Nat), .str (sg c)]) hq))
        rw [e] at this
        exact this
      · have h1 : c ∈ TL.tl z := by simpa using h1
        refine ⟨_, _, rfl, s1.trans (same_new hq), fun j d h2 h3 => ?_⟩
        by_cases e : j = i
        · rw [e, hc] at h3
          rw [← Option.some.inj h3]; exact h1
        · exact hj j d (by omega) h3
    · rintro σ H1 ⟨v2, v3, rfl, s1, hj⟩
      have e : strange z y = none := by
        refine List.findIdx?_eq_none_iff.mpr fun c hc => ?_
        obtain ⟨j, hlt, he⟩ := List.getElem_of_mem hc
        have := hj j c (by rw [TL.len_tl]; exact hlt) (by rw [List.getElem?_eq_getElem hlt, he])
        simp [this]
      have := k _ s1
      rw [e] at this
      exact this
/-- check_states, where nothing is wrong -/
def spCheck0 (K : PySem.W.Frag) : Sp := fun vs H Q _ => ∃ (z : Str) (R E : V) (rs : List Row) (es : List Int), vs = [.str z, R, E] ∧ Dp K H R (rowsD rs) ∧ Dp K H E (intsD es) ∧ Good z.length rs es ∧ z.length ≤ 26 ∧ rs.length ≤ 100 ∧
  ∀ H', Same H H' → Q .non H'
abbrev s_check_states : Stmt := top 15
abbrev N_check_states : List Str := ["values", "rows", "ends", "many", "state", "row", "goal", "bits"]
abbrev P_check_states : List Str := ["values", "rows", "ends"]
theorem sc_check_states : FnScope N_check_states P_check_states (defScope s_check_states) := ⟨rfl, rfl, rfl, by decide +kernel, rfl, by decide +kernel, by decide +kernel⟩

theorem ok_check0 {f : Addr} {fd : FuncData} (F : Fun K "check_states" "check_states" s_check_states f fd) (T : TxtC K mg) : FnOk P w K mg base CX0 1 f fd P_check_states (spCheck0 K) := by
  refine F.ok sc_check_states (fun vs H Q E h => ?_) (fun cdv A outer s H vs Q E hr h => ?_)
  · obtain ⟨z, R, E, rs, es, rfl, _⟩ := h
    rfl
  · obtain ⟨z, R, E, rs, es, rfl, hR, hE, hg, hz, hl, k⟩ := h
    refine ⟨_, (pss_cons (ps_set (i := 3) sc_check_states.nd rfl (Or.inr rfl) (pe_callB call_len (by rfl) T.len PySem.boot_len (pa_cons (pv 1) pa_nil)))
      (pss_cons (ps_for PassesOwn.never rfl (pi_enum (by rfl) T.enumerate (pa_cons (pv 1) pa_nil)) (pg_tup (by rfl) (pgs_cons (pg_name (i := 4) sc_check_states.nd rfl (Or.inl rfl)) (pgs_cons (pg_name (i := 5) sc_check_states.nd rfl (Or.inl rfl)) pgs_nil))) (pss_cons (ps_if (PW.pt (pw_or (pt_cmpR op_ne (pe_callB call_len (by rfl) T.len PySem.boot_len (pa_cons (pv 5) pa_nil)) (pe_callB call_len (by rfl) T.len PySem.boot_len (pa_cons (pv 0) pa_nil)) (nomark _)) (pw_or1 (pt_cmpR op_ge (pv 4) (pe_callB call_len (by rfl) T.len PySem.boot_len (pa_cons (pv 2) pa_nil)) (nomark _))))) (pss_one ps_never) pss_nil)
      (pss_one (ps_if (pt_val (pe_callB (cr_any rfl) (by rfl) T.any boot_any (pa_cons (pe_lc (own := [("goal", 6), ("bits", 7)]) (g := gTup K 2 (gCons (gName 6) (gCons (gName 7) gNil))) (by rfl) sc_check_states.nd (pi_list (pv 5)) (blkOk_by (own := [("goal", 6), ("bits", 7)]) (N := N_check_states) (sc := defScope s_check_states) (by decide +kernel)) (fun _ _ _ _ _ => (pg_tup (by rfl) (pgs_cons (pg_name (i := 6) sc_check_states.nd rfl (Or.inl rfl)) (pgs_cons (pg_name (i := 7) sc_check_states.nd rfl (Or.inl rfl)) pgs_nil)))) (fun _ _ _ _ _ => pts_nil) (fun _ _ _ _ _ => (pe_not (pe_chain op_le op_lt pe_int (pv 6) (pv 3))))) pa_nil))) (pss_one ps_never) pss_nil))))
      (pss_one (ps_if (PW.pt (pw_or (pt_cmpR op_eq (pv 3) pe_int (nomark _)) (pw_or1 (pt_cmpR op_gt (pe_callB call_len (by rfl) T.len PySem.boot_len (pa_cons (pv 2) pa_nil)) (pv 3) (nomark _))))) (pss_one ps_never) pss_nil)))), ?_⟩
    obtain ⟨r, xs, rfl, hr1, hr2⟩ := hR.listE
    obtain ⟨e, ys, rfl, he1, he2⟩ := hE.listE
    have lr : xs.length = rs.length := by rw [hr2.length, List.length_map]
    have le : ys.length = es.length := by rw [he2.length, List.length_map]
    have hzs : z.length ≤ sizeLine := Nat.le_of_lt (small1000 (by omega))
    refine ⟨_, rfl, _, _, rfl, Or.inl ⟨_, hr1, rfl⟩, ?_⟩
    refine ⟨_, rfl, r, xs, rfl, hr1, for_it (walk_enum (K := K) (a := r) (xs := xs)) (fun i σ H1 => ∃ v4 v5 v6 v7 : Option V, σ = [some (.str z), some (.ref r), some (.ref e), some (.int xs.length), v4, v5, v6, v7] ∧ Same H H1)
      ⟨none, none, none, none, rfl, Same.refl H⟩ (fun i σ H1 _ ⟨_, _, _, _, _, s1⟩ => s1.seq hr1) ?_ ?_⟩
    · rintro i x σ H1 H2 hi ⟨v4, v5, v6, v7, rfl, s1⟩ ⟨q, a, b, rfl, hq, rfl, ha, hb⟩
      obtain rfl : V.int i = a := Option.some.inj ha
      have hi' : i < rs.length := by omega
      obtain ⟨v, hv, hrow⟩ := hr2.get (i := i) (d := rowD rs[i]) (by rw [List.getElem?_map, List.getElem?_eq_getElem hi']; rfl)
      obtain rfl : v = b := Option.some.inj (hv.symm.trans hb)
      obtain ⟨w5, ts, rfl, hw1, hw2⟩ := hrow.listE
      obtain ⟨hlen, hok⟩ := hg.row rs[i] (List.getElem_mem hi')
      have lt : ts.length = z.length := by rw [hw2.length, List.length_map, hlen]
      have s2 : Same H (L2.upd H1 q (.tup [.int i, .ref w5])) := s1.trans (same_new hq)
      refine ⟨q, _, rfl, SqT.of upd_same, rfl, _, _, rfl, _, _, rfl, rfl, ?_⟩
      generalize L2.upd H1 q (.tup [.int i, .ref w5]) = H3 at s2
      refine ⟨_, rfl, _, _, rfl, Or.inl ⟨_, s2.seq hw1, rfl⟩, _, rfl, _, _, rfl, ⟨hzs, rfl⟩, rfl, _, rfl, ?_⟩
      refine ite2 (fun c1 => absurd c1 (by simp [lt])) (fun _ => ?_)
      refine ⟨_, rfl, _, rfl, _, _, rfl, Or.inl ⟨_, s2.seq he1, rfl⟩, _, _, rfl, rfl, _, rfl, ite2 (fun c2 => ?_) (fun _ => ?_)⟩
      · have c2 : (ys.length : Int) ≤ i := by simpa using c2
        have := hg.len
        omega
      -- any([..])
      refine ⟨_, rfl, w5, rfl, ⟨_, s2.seq hw1⟩, fun D hD => lc_list (K := K) (a := w5) (xs := ts) (fun j H4 => H4 D = some (.lst ((List.replicate j false).map V.bl)) ∧ Same H H4)
        ⟨upd_same, s2.trans (same_new hD)⟩ (fun j H4 _ ⟨_, s4⟩ => s4.seq hw1) ?_ ?_⟩
      · rintro j x H4 hx ⟨hD4, s4⟩
        obtain ⟨hj, _⟩ := List.getElem?_eq_some_iff.mp hx
        have hj' : j < rs[i].length := by omega
        obtain ⟨v', hv', htup⟩ := hw2.get (i := j) (d := tupD rs[i][j]) (by rw [List.getElem?_map, List.getElem?_eq_getElem hj']; rfl)
        obtain rfl : x = v' := by rw [hx] at hv'; exact Option.some.inj hv'
        obtain ⟨tt, us, rfl, ht1, ht2⟩ := htup.tupE
        obtain ⟨g0, g1, _, _⟩ := hok _ (List.getElem_mem hj')
        cases ht2 with
        | cons hA hB =>
          obtain rfl := hA.intE
          cases hB with
          | cons hB hC =>
            obtain rfl := hB.intE
            cases hC
            refine ⟨tt, _, rfl, (Kl.same s4).seqT ht1, rfl, _, _, rfl, _, _, rfl, rfl, rfl, ?_⟩
            refine lcYes ?_
            refine ⟨_, rfl, _, _, rfl, rfl, _, rfl, ?_⟩
            rw [if_pos (decide_eq_true g0)]
            refine ⟨_, rfl, _, _, rfl, rfl, _, rfl, _, hD4, ?_, ?_, ?_⟩
            · rw [List.length_map, List.length_replicate]; exact small1000 (by omega)
            · rw [upd_same, decide_eq_true (by rw [lr]; exact g1), List.replicate_succ', List.map_append]; rfl
            · exact s4.put (s2.free hD)
      · rintro H4 ⟨hD4, s4⟩
        refine ⟨D, _, rfl, SqL.of hD4, _, rfl, ite2 (fun c1 => absurd c1 (by simp)) (fun _ => ?_)⟩
        exact ⟨_, _, _, _, rfl, s4⟩
    · rintro σ H1 ⟨v4, v5, v6, v7, rfl, s1⟩
      have := hg.pos
      have := hg.len
      refine ⟨_, rfl, rfl, _, rfl, ite2 (fun c1 => ?_) (fun _ => ?_)⟩
      · have c1 : V.int (xs.length : Int) = V.int 0 := of_decide_eq_true c1
        have c2 := V.int.inj c1
        omega
      refine ⟨_, rfl, _, _, rfl, Or.inl ⟨_, s1.seq he1, rfl⟩, _, rfl, _, _, rfl, rfl, _, rfl, ite2 (fun c1 => ?_) (fun _ => ?_)⟩
      · have c1 : (xs.length : Int) < ys.length := by simpa using c1
        omega
      exact k _ s1
end
end Vf
set_option Elab.async false
set_option linter.all false
set_option maxRecDepth 100000
set_option maxHeartbeats 4000000
/-! walks of a column over a code's rows -/
namespace Vf
open PySem L2 PyProof.Rows
theorem take_more {α : Type} {l : List α} {i : Nat} (h : i < l.length) : l.take (i + 1) = l.take i ++ [l[i]] := by
  rw [List.take_add_one, List.getElem?_eq_getElem h]; rfl
/-- what a column leaves: the state and the bits, by the rows -/
def stepR (rs : List Row) (z : List Nat) (s : Int × Int) (c : Nat) : Int × Int :=
  let gb := ((rs.getD s.1.toNat []).getD (z.idxOf c) (0, 0))
  (gb.1, s.2 + gb.2)
def walkR (rs : List Row) (z : List Nat) (s : Int) (y : List Nat) : Int × Int := y.foldl (stepR rs z) (s, 0)
theorem walkR_more {rs : List Row} {z y : List Nat} {s : Int} {i : Nat} (h : i < y.length) : walkR rs z s (y.take (i + 1)) = stepR rs z (walkR rs z s (y.take i)) y[i] := by
  unfold walkR
  rw [take_more h, List.foldl_append]
  rfl
/-- states stay states, bits grow -/
structure GoodS (m : Nat) (rs : List Row) : Prop where
  row : ∀ r ∈ rs, r.length = m ∧ ∀ gb ∈ r, 0 ≤ gb.1 ∧ gb.1 < rs.length
theorem Good.s {m : Nat} {rs : List Row} {es : List Int} (g : Good m rs es) : GoodS m rs := ⟨fun r hr => ⟨(g.row r hr).1, fun gb h => ⟨((g.row r hr).2 gb h).1, ((g.row r hr).2 gb h).2.1⟩⟩⟩
theorem at_row {m : Nat} {rs : List Row} (g : GoodS m rs) {s : Int} {j : Nat} (h0 : 0 ≤ s) (h1 : s < rs.length) (hj : j < m) :
    ∃ (h : s.toNat < rs.length) (h' : j < rs[s.toNat].length), (rs.getD s.toNat []).getD j (0, 0) = rs[s.toNat][j] ∧ 0 ≤ (rs[s.toNat][j]).1 ∧ (rs[s.toNat][j]).1 < rs.length := by
  have h : s.toNat < rs.length := by omega
  have hr := g.row rs[s.toNat] (List.getElem_mem h)
  have h' : j < rs[s.toNat].length := by rw [hr.1]; exact hj
  refine ⟨h, h', ?_, hr.2 _ (List.getElem_mem h')⟩
  rw [List.getD_eq_getElem?_getD, List.getD_eq_getElem?_getD, List.getElem?_eq_getElem h, Option.getD_some, List.getElem?_eq_getElem h', Option.getD_some]
theorem idx_lt {z : List Nat} {c : Nat} (h : c ∈ z) : z.idxOf c < z.length := List.idxOf_lt_length_iff.mpr h
theorem walkR_ok {m : Nat} {rs : List Row} {z y : List Nat} {s : Int} (g : GoodS m rs) (hz : z.length = m) (h0 : 0 ≤ s) (h1 : s < rs.length) (hy : ∀ c ∈ y, c ∈ z) : ∀ i, i ≤ y.length → 0 ≤ (walkR rs z s (y.take i)).1 ∧ (walkR rs z s (y.take i)).1 < rs.length
  | 0, _ => by rw [List.take_zero]; exact ⟨h0, h1⟩
  | i + 1, hi => by
    have ih := walkR_ok (y := y) g hz h0 h1 hy i (by omega)
    have hi' : i < y.length := by omega
    rw [walkR_more hi']
    have hc : z.idxOf y[i] < m := by rw [← hz]; exact idx_lt (hy _ (List.getElem_mem hi'))
    obtain ⟨h, h', e, a, b⟩ := at_row g ih.1 ih.2 hc
    unfold stepR
    simp only [e]
    exact ⟨a, b⟩
/-- a column's length, by the rows and the ends -/
def lenR (rs : List Row) (es : List Int) (z : List Nat) (y : List Nat) : Int := (walkR rs z 0 y).2 + es.getD (walkR rs z 0 y).1.toNat 0
end Vf
set_option Elab.async false
set_option linter.all false
set_option maxRecDepth 100000
set_option maxHeartbeats 4000000
namespace Vf
open PySem L2 PyProof.Rows
theorem kLR : ¬ (("letters" : Str) = "rows") := by decide +kernel
theorem kLE : ¬ (("letters" : Str) = "ends") := by decide +kernel
theorem kRE : ¬ (("rows" : Str) = "ends") := by decide +kernel
/-- a code's attributes -/
def cflds (z : Str) (R E : V) : List (Str × V) := putF "ends" E (putF "rows" R (putF "letters" (.str z) []))
theorem cf_letters (z : Str) (R E : V) : (cflds z R E).lookup ("letters" : Str) = some (.str z) := by
  unfold cflds
  rw [lookup_putF, if_neg kLE, lookup_putF, if_neg kLR, lookup_putF, if_pos rfl]
theorem cf_rows (z : Str) (R E : V) : (cflds z R E).lookup ("rows" : Str) = some R := by
  unfold cflds
  rw [lookup_putF, if_neg kRE, lookup_putF, if_pos rfl]
theorem cf_ends (z : Str) (R E : V) : (cflds z R E).lookup ("ends" : Str) = some E := by
  unfold cflds
  rw [lookup_putF, if_pos rfl]
theorem cf_no (z : Str) (R E : V) {m : Str} (h1 : ¬ m = "letters") (h2 : ¬ m = "rows") (h3 : ¬ m = "ends") : (cflds z R E).lookup m = none := by
  unfold cflds
  rw [lookup_putF, if_neg h3, lookup_putF, if_neg h2, lookup_putF, if_neg h1]
  rfl
/-- a code's object -/
def CodeAt (K : PySem.W.Frag) (C : Addr) (H : Hp) (o : Addr) (z : Str) (rs : List Row) (es : List Int) : Prop :=
  ∃ dx R E, H o = some (.ins C dx (cflds z R E)) ∧ Dp K H R (rowsT rs) ∧ Dp K H E (intsT es)
/-- what is asked of the class -/
structure TxtK (K : PySem.W.Frag) (mg : Str → Option Value) (C fCS : Addr) : Prop extends TxtC K mg where
  cl : Cls K C
  nL : NoAttr K C "letters"
  nR : NoAttr K C "rows"
  nE : NoAttr K C "ends"
  mgCode : mg "Code" = some (.ref C)
  mcheck_states : mg "check_states" = some (.ref fCS)
  kcheck_states : PySem.W.keepIn K (.ref fCS) = true
def spInit (K : PySem.W.Frag) (C : Addr) : Sp := fun vs H Q _ => ∃ (o dx : Addr) (z : Str) (R E : V) (rs : List Row) (es : List Int), vs = [.ref o, .str z, R, E] ∧ H o = some (.ins C dx []) ∧ Dp K H R (rowsD rs) ∧ Dp K H E (intsD es) ∧ Good z.length rs es ∧ z.length ≤ 26 ∧ rs.length ≤ 100 ∧
  ∀ H', CodeAt K C H' o z rs es → (∀ b u, H b = some u → b ≠ o → H' b = some u) → Q .non H'
section
variable {P : Program} {w : World} {K : PySem.W.Frag} {mg : Str → Option Value} {base : Heap}
abbrev s_Code___init__ : Stmt := inClass (top 14) 0
abbrev N_Code___init__ : List Str := ["self", "values", "rows", "ends", "row", "goal", "bits"]
abbrev P_Code___init__ : List Str := ["self", "values", "rows", "ends"]
theorem sc_Code___init__ : FnScope N_Code___init__ P_Code___init__ (defScope s_Code___init__) := ⟨rfl, rfl, rfl, by decide +kernel, rfl, by decide +kernel, by decide +kernel⟩

theorem ok_init {f fCS C : Addr} {fd fdCS : FuncData} (F : Fun K "__init__" "Code.__init__" s_Code___init__ f fd) (T : TxtK K mg C fCS) (FCS : Fun K "check_states" "check_states" s_check_states fCS fdCS) (bcheck_states : Binds K fdCS P_check_states []) : FnOk P w K mg base CX0 2 f fd P_Code___init__ (spInit K C) := by
  have Gcheck_states : FnOk P w K mg base CX0 1 fCS fdCS P_check_states (spCheck0 K) := ok_check0 FCS T.toTxtC
  refine F.ok sc_Code___init__ (fun vs H Q E h => ?_) (fun cdv A outer s H vs Q E hr h => ?_)
  · obtain ⟨o, dx, z, R, E, rs, es, rfl, _⟩ := h
    rfl
  · obtain ⟨o, dx, z, R, E, rs, es, rfl, ho, hR, hE, hg, hz, hl, k⟩ := h
    refine ⟨_, (pss_cons (ps_expr (pe_call Gcheck_states (hr.mono (by decide)) (by rfl) T.mcheck_states T.kcheck_states bcheck_states .nil pass0 (pa_cons (pv 1) (pa_cons (pv 2) (pa_cons (pv 3) pa_nil)))))
      (pss_cons (ps_fld (pv 0) (pv 1) rfl)
      (pss_cons (ps_fld (pv 0) (pe_callTy call_tuple_of (by rfl) T.tuple boot_tuple (pa_cons (pe_lc (own := [("row", 4)]) (g := gName 4) (by rfl) sc_Code___init__.nd (pi_list (pv 2)) (blkOk_by (own := [("row", 4)]) (N := N_Code___init__) (sc := defScope s_Code___init__) (by decide +kernel)) (fun _ _ _ _ _ => pg_name (i := 4) sc_Code___init__.nd rfl (Or.inl rfl)) (fun _ _ _ _ _ => pts_nil) (fun _ _ _ _ _ => (pe_callTy (call_tupleK (K := K) rfl) (by rfl) T.tuple boot_tuple (pa_cons (pe_lc (own := [("goal", 5), ("bits", 6)]) (g := gTup K 2 (gCons (gName 5) (gCons (gName 6) gNil))) (by rfl) sc_Code___init__.nd (pi_listK (K := K) rfl (pv 4)) (blkOk_by (own := [("goal", 5), ("bits", 6)]) (N := N_Code___init__) (by with_unfolding_all rfl)) (fun _ _ _ _ _ => (pg_tup (by rfl) (pgs_cons (pg_name (i := 5) sc_Code___init__.nd rfl (Or.inl rfl)) (pgs_cons (pg_name (i := 6) sc_Code___init__.nd rfl (Or.inl rfl)) pgs_nil)))) (fun _ _ _ _ _ => pts_nil) (fun _ _ _ _ _ => (pe_tup (pa_cons (pv 5) (pa_cons (pv 6) pa_nil))))) pa_nil)))) pa_nil)) rfl)
      (pss_one (ps_fld (pv 0) (pe_callTy call_tuple_of (by rfl) T.tuple boot_tuple (pa_cons (pv 3) pa_nil)) rfl))))), ?_⟩
    refine ⟨_, rfl, _, rfl, _, rfl, z, R, E, rs, es, rfl, hR, hE, hg, hz, hl, fun H1 s1 => ?_⟩
    obtain ⟨r, xs, rfl, hr1, hr2⟩ := hR.listE
    obtain ⟨e, ys, rfl, he1, he2⟩ := hE.listE
    have lr : xs.length = rs.length := by rw [hr2.length, List.length_map]
    have ho1 := s1 _ _ ho
    -- self.letters = values
    refine ⟨_, rfl, _, rfl, o, C, dx, [], rfl, ho1, T.cl, T.nL, (by show 0 < 1000; decide), ?_⟩
    have k2 : ∀ b u, H b = some u → b ≠ o → (L2.upd H1 o (.ins C dx (putF "letters" (.str z) []))) b = some u := fun b u h n => by rw [upd_ne n]; exact s1 b u h
    have ho2 : (L2.upd H1 o (.ins C dx (putF "letters" (.str z) []))) o = some (.ins C dx (putF "letters" (.str z) [])) := upd_same
    revert k2 ho2
    generalize L2.upd H1 o (.ins C dx (putF "letters" (.str z) [])) = H2
    intro k2 ho2
    have kl2 : Kl H H2 := fun b u h d => k2 b u h fun q => by rw [q, ho] at h; cases h; exact d
    -- self.rows = ..
    refine ⟨_, rfl, r, rfl, ⟨_, kl2.seq hr1⟩, fun D hD => lc_list (K := K) (a := r) (xs := xs) (fun i H4 => ∃ vs : List V, H4 D = some (.lst vs) ∧ DpAll K (L2.del H4 D) vs ((rs.take i).map rowT) ∧ Same H2 H4)
      ⟨[], upd_same, .nil, same_new hD⟩ (fun i H4 _ ⟨_, _, _, s4⟩ => s4.seq (kl2.seq hr1)) ?_ ?_⟩
    · rintro i x H4 hx ⟨vs, hD4, hd4, s4⟩
      obtain ⟨hi, _⟩ := List.getElem?_eq_some_iff.mp hx
      have hi' : i < rs.length := by omega
      obtain ⟨v, hv, hrow⟩ := hr2.get (i := i) (d := rowD rs[i]) (by rw [List.getElem?_map, List.getElem?_eq_getElem hi']; rfl)
      obtain rfl : x = v := Option.some.inj (hx.symm.trans hv)
      obtain ⟨w5, ts, rfl, hw1, hw2⟩ := hrow.listE
      obtain ⟨hlen, hok⟩ := hg.row rs[i] (List.getElem_mem hi')
      have lt : ts.length = rs[i].length := by rw [hw2.length, List.length_map]
      have kl4 : Kl H H4 := kl2.trans (Kl.same s4)
      refine ⟨rfl, ?_⟩
      refine lcYes ?_
      refine ⟨_, rfl, w5, rfl, ⟨_, kl4.seq hw1⟩, fun D2 hD2 => lc_list (K := K) (a := w5) (xs := ts) (fun j H5 => ∃ us : List V, H5 D2 = some (.lst us) ∧ DpAll K (L2.del (L2.del H5 D) D2) us ((rs[i].take j).map tupD) ∧ Same H4 H5)
        ⟨[], upd_same, .nil, same_new hD2⟩ (fun j H5 _ ⟨_, _, _, s5⟩ => s5.seq (kl4.seq hw1)) ?_ ?_⟩
      · rintro j y H5 hy ⟨us, hD5, hd5, s5⟩
        obtain ⟨hj, _⟩ := List.getElem?_eq_some_iff.mp hy
        have hj' : j < rs[i].length := by omega
        obtain ⟨v', hv', htup⟩ := hw2.get (i := j) (d := tupD rs[i][j]) (by rw [List.getElem?_map, List.getElem?_eq_getElem hj']; rfl)
        obtain rfl : y = v' := Option.some.inj (hy.symm.trans hv')
        obtain ⟨tt, ws, rfl, ht1, ht2⟩ := htup.tupE
        cases ht2 with
        | cons hA hB =>
          obtain rfl := hA.intE
          cases hB with
          | cons hB hC =>
            obtain rfl := hB.intE
            cases hC
            refine ⟨tt, _, rfl, (kl4.trans (Kl.same s5)).seqT ht1, rfl, _, _, rfl, _, _, rfl, rfl, rfl, ?_⟩
            refine lcYes ?_
            refine ⟨_, rfl, _, rfl, (by show 2 ≤ sizeLine; decide), fun q hq => ⟨us, ?_, ?_, us ++ [.ref q], upd_same, ?_, ?_⟩⟩
            · rw [upd_ne (ne_of_none hD5 hq)]; exact hD5
            · rw [hd5.length, List.length_map, List.length_take]; exact small1000 (by omega)
            · have nqD2 : q ≠ D2 := (ne_of_none hD5 hq).symm
              have nqD : q ≠ D := (ne_of_none (s5 _ _ hD4) hq).symm
              rw [take_more hj', List.map_append]
              refine (hd5.mv fun b o e _ => ?_).snoc (.tup (SqT.of ?_) (.cons (.int _) (.cons (.int _) .nil)))
              · obtain ⟨h1, h2⟩ := del_some e
                obtain ⟨h3, h4⟩ := del_some h2
                rw [del_ne h1, del_ne h3, upd_ne h1, upd_ne (ne_of_none h4 hq)]
                exact h4
              · rw [del_ne nqD2, del_ne nqD, upd_ne nqD2, upd_same]
            · exact (s5.trans (same_new hq)).put hD2
      · rintro H5 ⟨us, hD5, hd5, s5⟩
        refine ⟨D2, us, rfl, Or.inl ⟨SqL.of hD5, fun t ht => ⟨vs, ?_, ?_, vs ++ [.ref t], upd_same, ?_, ?_⟩⟩⟩
        · rw [upd_ne (ne_of_none (s5 _ _ hD4) ht)]; exact s5 _ _ hD4
        · rw [hd4.length, List.length_map, List.length_take]; exact small1000 (by omega)
        · have ntD : t ≠ D := (ne_of_none (s5 _ _ hD4) ht).symm
          have e0 : Kl (L2.del H5 D) (L2.del (L2.upd (L2.upd H5 t (.tup us)) D (.lst (vs ++ [.ref t]))) D) := fun b o e _ => by
            obtain ⟨h1, h2⟩ := del_some e
            rw [del_ne h1, upd_ne h1, upd_ne (ne_of_none h2 ht)]
            exact h2
          rw [take_more hi', List.map_append]
          refine (hd4.mv (((Kl.same s5).del D).trans e0)).snoc (.tup (xs := us) (SqT.of ?_) ?_)
          · rw [del_ne ntD, upd_ne ntD, upd_same]
          · have := hd5.mv ((Kl.undel _ D2).trans e0)
            rw [lt, List.take_of_length_le (Nat.le_refl _)] at this
            exact this
        · exact ((s4.trans s5).trans (same_new ht)).put hD
    · rintro H4 ⟨vs, hD4, hd4, s4⟩
      rw [lr, List.take_of_length_le (Nat.le_refl _)] at hd4
      refine ⟨D, vs, rfl, Or.inl ⟨SqL.of hD4, fun t ht => ?_⟩⟩
      have s5 : Same H2 (L2.upd H4 t (.tup vs)) := s4.trans (same_new ht)
      have hT : Dp K (L2.upd H4 t (.tup vs)) (.ref t) (rowsT rs) := .tup (SqT.of upd_same) (hd4.mv ((Kl.undel _ _).trans (Kl.same (same_new ht))))
      revert s5 hT
      generalize L2.upd H4 t (.tup vs) = H5
      intro s5 hT
      have ho5 := s5 _ _ ho2
      refine ⟨_, rfl, o, C, dx, _, rfl, ho5, T.cl, T.nR, (by show 1 < 1000; decide), ?_⟩
      -- self.ends = tuple(ends)
      have hnko : ∀ b u, H b = some u → b ≠ o → (L2.upd H5 o (.ins C dx (putF "rows" (.ref t) (putF "letters" (.str z) [])))) b = some u := fun b u h n => by rw [upd_ne n]; exact s5 _ _ (k2 b u h n)
      have hT6 : Dp K (L2.upd H5 o (.ins C dx (putF "rows" (.ref t) (putF "letters" (.str z) [])))) (.ref t) (rowsT rs) := hT.mv fun b u h d => by
        rw [upd_ne (fun q => by rw [q, ho5] at h; cases h; exact d)]; exact h
      have ho6 : (L2.upd H5 o (.ins C dx (putF "rows" (.ref t) (putF "letters" (.str z) [])))) o = some (.ins C dx (putF "rows" (.ref t) (putF "letters" (.str z) []))) := upd_same
      revert hnko hT6 ho6
      generalize L2.upd H5 o (.ins C dx (putF "rows" (.ref t) (putF "letters" (.str z) []))) = H6
      intro hnko hT6 ho6
      have kl6 : Kl H H6 := fun b u h d => hnko b u h fun q => by rw [q, ho] at h; cases h; exact d
      refine ⟨_, rfl, e, ys, rfl, Or.inl ⟨kl6.seq he1, fun a ha => ?_⟩⟩
      have s7 : Same H6 (L2.upd H6 a (.tup ys)) := same_new ha
      refine ⟨_, rfl, o, C, dx, _, rfl, s7 _ _ ho6, T.cl, T.nE, (by show 2 < 1000; decide), ?_⟩
      have kl8 : ∀ G : HO, G = .ins C dx (cflds z (.ref t) (.ref a)) → Kl (L2.upd H6 a (.tup ys)) (L2.upd (L2.upd H6 a (.tup ys)) o G) := fun G _ b u h d => by
        rw [upd_ne (fun q => by rw [q, s7 _ _ ho6] at h; cases h; exact d)]; exact h
      refine k _ ⟨dx, .ref t, .ref a, upd_same, (hT6.mv (Kl.same s7)).mv (kl8 _ rfl), (Dp.tup (SqT.of upd_same) (he2.mv (kl6.trans (Kl.same s7)))).mv (kl8 _ rfl)⟩ fun b u h n => ?_
      rw [upd_ne n]
      exact s7 _ _ (hnko b u h n)
end
end Vf
set_option Elab.async false
set_option linter.all false
set_option maxRecDepth 100000
set_option maxHeartbeats 4000000
namespace Vf
open PySem L2 PyProof.Rows
/-- what is asked of the errors and the methods -/
structure TxtL (K : PySem.W.Frag) (mg : Str → Option Value) (C fCS fSP B CV fV fCL fRun : Addr) : Prop extends TxtK K mg C fCS where
  mstrange_place : mg "strange_place" = some (.ref fSP)
  kstrange_place : PySem.W.keepIn K (.ref fSP) = true
  base : BaseT K mg "CodeError" B
  bv : ErrT K mg "BadValue" "place" CV fV
  mtCL : Meth K C "check_letters" fCL
  mtRun : Meth K C "run" fRun
section
variable {P : Program} {w : World} {K : PySem.W.Frag} {mg : Str → Option Value} {base : Heap}
abbrev s_BadValue___init__ : Stmt := inClass (top 4) 0
abbrev N_BadValue___init__ : List Str := ["self", "place"]
abbrev P_BadValue___init__ : List Str := ["self", "place"]
theorem sc_BadValue___init__ : FnScope N_BadValue___init__ P_BadValue___init__ (defScope s_BadValue___init__) := ⟨rfl, rfl, rfl, by decide +kernel, rfl, by decide +kernel, by decide +kernel⟩

theorem ok_bv {f B C fI : Addr} {fd : FuncData} (F : Fun K "__init__" "BadValue.__init__" s_BadValue___init__ f fd) (Tb : BaseT K mg "CodeError" B) (T : ErrT K mg "BadValue" "place" C fI) : FnOk P w K mg base CX0 1 f fd P_BadValue___init__ (spErr C "place") := by
  refine F.ok sc_BadValue___init__ (fun vs H Q E h => ?_) (fun cdv A outer s H vs Q E hr h => ?_)
  · obtain ⟨a, v, rfl, _⟩ := h
    rfl
  · obtain ⟨a, v, rfl, ha, k⟩ := h
    refine ⟨_, pss_cons (ps_expr (pe_clsinit Tb (by rfl) (pa_cons (pv 0) (pa_cons pe_str pa_nil)))) (pss_one (ps_ost (pv 0) (pv 1))), ?_⟩
    refine ⟨_, rfl, a, C, _, rfl, by show 1 ≤ 1000; decide, T.oex, ha, ?_⟩
    exact ⟨_, rfl, _, rfl, a, C, rfl, T.oex, T.nf, Or.inl ⟨ha, fun d h1 h2 => k d h1 h2⟩⟩
/-- the errors that leave: BadValue with its place -/
def EBV (CV : Addr) (H : Hp) (E : XK) (i : Nat) : Prop := ∀ d H', Raised H H' d "place" (.int i) → E (.ref CV) (some d) H'
def spCL (K : PySem.W.Frag) (C CV : Addr) : Sp := fun vs H Q E => ∃ (o : Addr) (z y : Str) (rs : List Row) (es : List Int), vs = [.ref o, .str y] ∧ CodeAt K C H o z rs es ∧
  (strange z y = none → ∀ H', Same H H' → Q .non H') ∧ (∀ i, strange z y = some i → EBV CV H E i)
theorem Raised.after {H H1 H' : Hp} {d : Addr} {f : Str} {v : V} (s : Same H H1) (r : Raised H1 H' d f v) : Raised H H' d f v := ⟨s.free r.1, r.2.1, s.trans r.2.2⟩
abbrev s_Code_check_letters : Stmt := inClass (top 14) 7
abbrev N_Code_check_letters : List Str := ["self", "column", "place"]
abbrev P_Code_check_letters : List Str := ["self", "column"]
theorem sc_Code_check_letters : FnScope N_Code_check_letters P_Code_check_letters (defScope s_Code_check_letters) := ⟨rfl, rfl, rfl, by decide +kernel, rfl, by decide +kernel, by decide +kernel⟩

theorem ok_cl {f fCS fSP B C CV fV fCL fRun : Addr} {fd fdSP fdV : FuncData} (F : Fun K "check_letters" "Code.check_letters" s_Code_check_letters f fd) (T : TxtL K mg C fCS fSP B CV fV fCL fRun) (FSP : Fun K "strange_place" "strange_place" s_strange_place fSP fdSP) (bstrange_place : Binds K fdSP P_strange_place [])
    (FV : Fun K "__init__" "BadValue.__init__" s_BadValue___init__ fV fdV) (bV : Binds K fdV P_BadValue___init__ []) : FnOk P w K mg base (L2.CX P w) 3 f fd P_Code_check_letters (spCL K C CV) := by
  have Gstrange_place : FnOk P w K mg base CX0 1 fSP fdSP P_strange_place spStrange := ok_strange FSP T.toTxtC
  have GV : FnOk P w K mg base CX0 1 fV fdV P_BadValue___init__ (spErr CV "place") := ok_bv FV T.base T.bv
  refine F.okX sc_Code_check_letters (fun vs H Q E h => ?_) (fun cdv A outer s H vs Q E hr h => ?_)
  · obtain ⟨o, z, y, rs, es, rfl, _⟩ := h
    rfl
  · obtain ⟨o, z, y, rs, es, rfl, ⟨dx, R, Ev, ho, hR, hE⟩, kq, ke⟩ := h
    refine ⟨_, (pss_cons (ps_set (i := 2) sc_Code_check_letters.nd rfl (Or.inl rfl) (pe_call Gstrange_place (hr.mono (by decide)) (by rfl) T.mstrange_place T.kstrange_place bstrange_place .nil pass0 (pa_cons (pe_fld (pv 0) rfl) (pa_cons (pv 1) pa_nil))))
      (pss_one (ps_if (pt_cmpR op_notN (pv 2) pe_non (nomark _)) (pss_one (ps_raise rfl (takes_of rfl rfl rfl rfl) (pmk_oex T.bv.oex T.bv.iC T.bv.tI GV (hr.mono (by decide)) bV .nil pass0 (by rfl) T.bv.g (pa_cons (pv 2) pa_nil)))) pss_nil))), ?_⟩
    refine ⟨_, rfl, o, C, dx, _, _, rfl, ho, T.cl, T.nL, cf_letters _ _ _, _, rfl, z, y, rfl, fun H1 s1 => ?_⟩
    cases hs : strange z y with
    | none =>
      refine ⟨_, rfl, rfl, _, rfl, ite2 (fun c => absurd c (by simp)) (fun _ => ?_)⟩
      exact kq hs H1 s1
    | some i =>
      refine ⟨_, rfl, rfl, _, rfl, ite2 (fun _ => ?_) (fun c => absurd c (by simp))⟩
      refine ⟨_, rfl, by show 1 ≤ 1000; decide, fun a ha => ⟨a, _, rfl, upd_same, fun d hd hda => ⟨rfl, d, [("place", V.int i)], upd_same, ?_, ?_, ?_⟩⟩⟩
      · rw [upd_ne hda, upd_same]
      · rw [upd_ne hda] at hd; exact hd
      · rw [upd_ne hda] at hd
        exact ke i hs d _ ((raised_of ha hd hda).after s1)
def spRun (K : PySem.W.Frag) (C : Addr) : Sp := fun vs H Q _ => ∃ (o : Addr) (s : Int) (z y : Str) (rs : List Row) (es : List Int), vs = [.ref o, .int s, .str y] ∧ CodeAt K C H o z rs es ∧ GoodS z.length rs ∧ z.length ≤ 26 ∧ (∀ c ∈ TL.tl y, c ∈ TL.tl z) ∧ 0 ≤ s ∧ s < rs.length ∧
  ∀ (t : Addr) (H' : Hp), Same H H' → H' t = some (.tup [.int (walkR rs (TL.tl z) s (TL.tl y)).1, .int (walkR rs (TL.tl z) s (TL.tl y)).2]) → Q (.ref t) H'
abbrev s_Code_run : Stmt := inClass (top 14) 8
abbrev N_Code_run : List Str := ["self", "state", "word", "total", "letter", "bits"]
abbrev P_Code_run : List Str := ["self", "state", "word"]
theorem sc_Code_run : FnScope N_Code_run P_Code_run (defScope s_Code_run) := ⟨rfl, rfl, rfl, by decide +kernel, rfl, by decide +kernel, by decide +kernel⟩

theorem ok_run {f C fCS : Addr} {fd : FuncData} (F : Fun K "run" "Code.run" s_Code_run f fd) (T : TxtK K mg C fCS) : FnOk P w K mg base CX0 1 f fd P_Code_run (spRun K C) := by
  refine F.ok sc_Code_run (fun vs H Q E h => ?_) (fun cdv A outer s H vs Q E hr h => ?_)
  · obtain ⟨o, s, z, y, rs, es, rfl, _⟩ := h
    rfl
  · obtain ⟨o, s0, z, y, rs, es, rfl, ⟨dx, R, Ev, ho, hR, hE⟩, hg, hz, hy, h0, h1, k⟩ := h
    refine ⟨_, (pss_cons (ps_set (i := 3) sc_Code_run.nd rfl (Or.inl rfl) pe_int)
      (pss_cons (ps_for PassesOwn.never rfl (pi_str (pv 2)) (pg_name (i := 4) sc_Code_run.nd rfl (Or.inl rfl)) (pss_cons (ps_asg (pe_ix ix_tup (pe_ix ix_tup (pe_fld (pv 0) rfl) (pv 1) (fun _ _ => rfl)) (pe_m1 PySem.F.slot_str_find PySem.F.type_str_find mt_find (pe_fld (pv 0) rfl) (pv 4)) (fun _ _ => rfl)) (pg_tup (by rfl) (pgs_cons (pg_name (i := 1) sc_Code_run.nd rfl (Or.inl rfl)) (pgs_cons (pg_name (i := 5) sc_Code_run.nd rfl (Or.inl rfl)) pgs_nil))))
      (pss_one (ps_aug (i := 3) sc_Code_run.nd rfl (Or.inl rfl) (pv 5) ip_add))))
      (pss_one (ps_ret (pe_tup (pa_cons (pv 1) (pa_cons (pv 3) pa_nil))))))), ?_⟩
    obtain ⟨ra, xs, rfl, hR1, hR2⟩ := hR.tupE
    have lz : (TL.tl z).length = z.length := (TL.len_tl z).symm
    refine ⟨_, rfl, y, rfl, for_it walk_strS (fun i σ H1 => ∃ v4 v5 : Option V, σ = [some (.ref o), some (.int (walkR rs (TL.tl z) s0 ((TL.tl y).take i)).1), some (.str y), some (.int (walkR rs (TL.tl z) s0 ((TL.tl y).take i)).2), v4, v5] ∧ H1 = H)
      ⟨none, none, rfl, rfl⟩ (fun _ _ _ _ _ => trivial) ?_ ?_⟩
    · rintro i x σ H2 H1 hi ⟨v4, v5, rfl, rfl⟩ ⟨rfl, c, hc, rfl⟩
      obtain ⟨hlt, he⟩ := List.getElem?_eq_some_iff.mp hc
      obtain ⟨a0, a1⟩ := walkR_ok hg lz h0 h1 hy i (Nat.le_of_lt hlt)
      have hcz : c ∈ TL.tl z := hy c (by rw [← he]; exact List.getElem_mem hlt)
      have hidx : (TL.tl z).idxOf c < z.length := by rw [← lz]; exact idx_lt hcz
      obtain ⟨g1, g2, ge, gb0, gb1⟩ := at_row hg a0 a1 hidx
      rw [walkR_more hlt, he]
      revert a0 a1 g1 g2 ge gb0 gb1
      generalize walkR rs (TL.tl z) s0 ((TL.tl y).take i) = sp
      intro a0 a1 g1 g2 ge gb0 gb1
      obtain ⟨v, hv, hrow⟩ := hR2.get (i := sp.1.toNat) (d := rowT rs[sp.1.toNat]) (by rw [List.getElem?_map, List.getElem?_eq_getElem g1]; rfl)
      obtain ⟨w5, ts, rfl, hw1, hw2⟩ := hrow.tupE
      obtain ⟨v', hv', htup⟩ := hw2.get (i := (TL.tl z).idxOf c) (d := tupD rs[sp.1.toNat][(TL.tl z).idxOf c]) (by rw [List.getElem?_map, List.getElem?_eq_getElem g2]; rfl)
      obtain ⟨tt, us, rfl, ht1, ht2⟩ := htup.tupE
      cases ht2 with
      | cons hA hB =>
        obtain rfl := hA.intE
        cases hB with
        | cons hB hC =>
          obtain rfl := hB.intE
          cases hC
          refine ⟨_, rfl, o, C, dx, _, _, rfl, ho, T.cl, T.nR, cf_rows _ _ _, _, rfl, ra, xs, sp.1, _, rfl, rfl, hR1, at_of (Int.toNat_of_nonneg a0).symm hv, ?_⟩
          refine ⟨_, rfl, o, C, dx, _, _, rfl, ho, T.cl, T.nL, cf_letters _ _ _, ⟨_, rfl⟩, _, rfl, z, sg c, rfl, rfl, ?_⟩
          rw [find_sg hcz]
          refine ⟨w5, ts, _, _, rfl, rfl, hw1, at_of rfl hv', ?_⟩
          refine ⟨tt, _, rfl, ht1, rfl, _, _, rfl, _, _, rfl, rfl, ?_⟩
          refine ⟨_, rfl, _, rfl, _, _, rfl, rfl, some (.str (sg c)), some (.int (rs[sp.1.toNat][(TL.tl z).idxOf c]).2), ?_, rfl⟩
          have e1 : stepR rs (TL.tl z) sp c = ((rs[sp.1.toNat][(TL.tl z).idxOf c]).1, sp.2 + (rs[sp.1.toNat][(TL.tl z).idxOf c]).2) := by
            unfold stepR
            simp only [ge]
          rw [e1]
          rfl
    · rintro σ H1 ⟨v4, v5, rfl, rfl⟩
      refine ⟨_, rfl, _, rfl, by show 2 ≤ sizeLine; decide, fun t ht => k t _ (same_new ht) ?_⟩
      rw [upd_same, TL.len_tl, List.take_length]
end
theorem strange_none {z y : Str} (h : strange z y = none) : ∀ c ∈ TL.tl y, c ∈ TL.tl z := fun c hc => by
  have := List.findIdx?_eq_none_iff.mp h c hc
  simpa using this
theorem CodeAt.same {K : PySem.W.Frag} {C o : Addr} {H H' : Hp} {z : Str} {rs : List Row} {es : List Int} (c : CodeAt K C H o z rs es) (s : Same H H') : CodeAt K C H' o z rs es := by
  obtain ⟨dx, R, E, h1, h2, h3⟩ := c
  exact ⟨dx, R, E, s _ _ h1, h2.mv (Kl.same s), h3.mv (Kl.same s)⟩
section
variable {P : Program} {w : World} {K : PySem.W.Frag} {mg : Str → Option Value} {base : Heap}
def spLen (K : PySem.W.Frag) (C CV : Addr) : Sp := fun vs H Q E => ∃ (o : Addr) (z y : Str) (rs : List Row) (es : List Int), vs = [.ref o, .str y] ∧ CodeAt K C H o z rs es ∧ GoodS z.length rs ∧ es.length = rs.length ∧ 0 < rs.length ∧ z.length ≤ 26 ∧
  (strange z y = none → ∀ H', Same H H' → Q (.int (lenR rs es (TL.tl z) (TL.tl y))) H') ∧ (∀ i, strange z y = some i → EBV CV H E i)
abbrev s_Code_length : Stmt := inClass (top 14) 5
abbrev N_Code_length : List Str := ["self", "column", "state", "bits"]
abbrev P_Code_length : List Str := ["self", "column"]
theorem sc_Code_length : FnScope N_Code_length P_Code_length (defScope s_Code_length) := ⟨rfl, rfl, rfl, by decide +kernel, rfl, by decide +kernel, by decide +kernel⟩

theorem ok_len {f fCS fSP B C CV fV fCL fRun : Addr} {fd fdSP fdV fdCL fdR : FuncData} (F : Fun K "length" "Code.length" s_Code_length f fd) (T : TxtL K mg C fCS fSP B CV fV fCL fRun) (FSP : Fun K "strange_place" "strange_place" s_strange_place fSP fdSP) (bstrange_place : Binds K fdSP P_strange_place [])
    (FV : Fun K "__init__" "BadValue.__init__" s_BadValue___init__ fV fdV) (bV : Binds K fdV P_BadValue___init__ []) (FCL : Fun K "check_letters" "Code.check_letters" s_Code_check_letters fCL fdCL) (bCL : Binds K fdCL P_Code_check_letters [])
    (FR : Fun K "run" "Code.run" s_Code_run fRun fdR) (bR : Binds K fdR P_Code_run []) : FnOk P w K mg base (L2.CX P w) 4 f fd P_Code_length (spLen K C CV) := by
  have GCL : FnOk P w K mg base (L2.CX P w) 3 fCL fdCL P_Code_check_letters (spCL K C CV) := ok_cl FCL T FSP bstrange_place FV bV
  have GR : FnOk P w K mg base CX0 1 fRun fdR P_Code_run (spRun K C) := ok_run FR T.toTxtK
  refine F.okX sc_Code_length (fun vs H Q E h => ?_) (fun cdv A outer s H vs Q E hr h => ?_)
  · obtain ⟨o, z, y, rs, es, rfl, _⟩ := h
    rfl
  · obtain ⟨o, z, y, rs, es, rfl, hC, hg, hl, hp, hz, kq, ke⟩ := h
    refine ⟨_, (pss_cons (ps_expr (pe_meth (pv 0) T.cl T.mtCL GCL (hr.mono (by decide)) bCL .nil (passes_call (takes_of rfl rfl rfl rfl) (fun _ _ _ _ h => h)) (pa_cons (pv 1) pa_nil)))
      (pss_cons (ps_asg (pe_meth (pv 0) T.cl T.mtRun GR (hr.mono (by decide)) bR .nil pass0 (pa_cons pe_int (pa_cons (pv 1) pa_nil))) (pg_tup (by rfl) (pgs_cons (pg_name (i := 2) sc_Code_length.nd rfl (Or.inl rfl)) (pgs_cons (pg_name (i := 3) sc_Code_length.nd rfl (Or.inl rfl)) pgs_nil))))
      (pss_one (ps_ret (pe_op op_add (pv 3) (pe_ix ix_tup (pe_fld (pv 0) rfl) (pv 2) (fun _ _ => rfl))))))), ?_⟩
    obtain ⟨dx, R, Ev, ho, hR, hE⟩ := id hC
    refine ⟨_, rfl, o, dx, _, rfl, ho, cf_no _ _ _ (by decide +kernel) (by decide +kernel) (by decide +kernel), _, rfl, o, z, y, rs, es, rfl, hC, fun hs H1 s1 => ?_, ke⟩
    have hC1 := hC.same s1
    obtain ⟨dx, R, Ev, ho, hR, hE⟩ := id hC1
    have hy := strange_none hs
    refine ⟨_, rfl, o, dx, _, rfl, ho, cf_no _ _ _ (by decide +kernel) (by decide +kernel) (by decide +kernel), _, rfl, o, 0, z, y, rs, es, rfl, hC1, hg, hz, hy, by decide, by omega, fun t H2 s2 ht => ?_⟩
    obtain ⟨w0, w1⟩ := walkR_ok hg (TL.len_tl z).symm (s := 0) (by decide) (by omega) hy (TL.tl y).length (Nat.le_refl _)
    rw [List.take_length] at w0 w1
    obtain ⟨dx, R, Ev, ho, hR, hE⟩ := id (hC1.same s2)
    obtain ⟨ea, xs, rfl, hE1, hE2⟩ := hE.tupE
    obtain rfl := dpAll_intsE hE2
    refine ⟨t, _, rfl, SqT.of ht, rfl, _, _, rfl, _, _, rfl, rfl, ?_⟩
    have he : (walkR rs (TL.tl z) 0 (TL.tl y)).1.toNat < es.length := by omega
    refine ⟨_, rfl, _, rfl, o, C, dx, _, _, rfl, ho, T.cl, T.nE, cf_ends _ _ _, _, rfl, ea, _, _, _, rfl, rfl, hE1, at_of (Int.toNat_of_nonneg w0).symm (by rw [List.getElem?_map, List.getElem?_eq_getElem he]; rfl), _, _, rfl, rfl, ?_⟩
    have e : lenR rs es (TL.tl z) (TL.tl y) = (walkR rs (TL.tl z) 0 (TL.tl y)).2 + es[(walkR rs (TL.tl z) 0 (TL.tl y)).1.toNat] := by
      unfold lenR
      rw [List.getD_eq_getElem?_getD, List.getElem?_eq_getElem he]
      rfl
    have := kq hs H2 (s1.trans s2)
    rw [e] at this
    exact this
end
end Vf
set_option Elab.async false
set_option linter.all false
set_option maxRecDepth 100000
set_option maxHeartbeats 4000000
namespace Vf
open PySem L2 PyProof.Rows
section
variable {P : Program} {w : World} {K : PySem.W.Frag} {mg : Str → Option Value} {base : Heap}
/-- Code(..) out of drawn data -/
def spMade (K : PySem.W.Frag) (C : Addr) : Sp := fun vs H Q _ => ∃ (t : V) (z : Str) (rs : List Row) (es : List Int), vs = [t] ∧ Dp K H t (codeD z rs es) ∧ Good z.length rs es ∧ z.length ≤ 26 ∧ rs.length ≤ 100 ∧
  ∀ (o : Addr) (H' : Hp), CodeAt K C H' o z rs es → Same H H' → Q (.ref o) H'
abbrev s__law_made_code : Stmt := top 25
abbrev N__law_made_code : List Str := ["_law_code_here"]
abbrev P__law_made_code : List Str := ["_law_code_here"]
theorem sc__law_made_code : FnScope N__law_made_code P__law_made_code (defScope s__law_made_code) := ⟨rfl, rfl, rfl, by decide +kernel, rfl, by decide +kernel, by decide +kernel⟩

theorem ok_made {f fI fCS C : Addr} {fd fdI fdCS : FuncData} (F : Fun K "_law_made_code" "_law_made_code" s__law_made_code f fd) (T : TxtK K mg C fCS) (MCode : Mk K C fI) (FI : Fun K "__init__" "Code.__init__" s_Code___init__ fI fdI) (bCode : Binds K fdI P_Code___init__ [])
    (FCS : Fun K "check_states" "check_states" s_check_states fCS fdCS) (bcheck_states : Binds K fdCS P_check_states []) : FnOk P w K mg base CX0 4 f fd P__law_made_code (spMade K C) := by
  have GCode : FnOk P w K mg base CX0 2 fI fdI P_Code___init__ (spInit K C) := ok_init FI T FCS bcheck_states
  refine F.ok sc__law_made_code (fun vs H Q E h => ?_) (fun cdv A outer s H vs Q E hr h => ?_)
  · obtain ⟨t, z, rs, es, rfl, _⟩ := h
    rfl
  · obtain ⟨t, z, rs, es, rfl, hD, hg, hz, hl, k⟩ := h
    refine ⟨_, (pss_one (ps_ret (pe_make MCode GCode (hr.mono (by decide)) (by rfl) T.mgCode bCode .nil pass0 (pa_cons (pe_ix ix_tup (pv 0) pe_int (fun _ _ => rfl)) (pa_cons (pe_ix ix_tup (pv 0) pe_int (fun _ _ => rfl)) (pa_cons (pe_ix ix_tup (pv 0) pe_int (fun _ _ => rfl)) pa_nil)))))), ?_⟩
    obtain ⟨a, xs, rfl, ha, hx⟩ := hD.tupE
    cases hx with
    | cons h1 hx =>
      obtain rfl := h1.strE
      cases hx with
      | cons h2 hx =>
        cases hx with
        | cons h3 hx =>
          cases hx
          refine ⟨_, rfl, a, _, 0, _, rfl, rfl, ha, atI_nat (j := 0) rfl, _, rfl, a, _, 1, _, rfl, rfl, ha, atI_nat (j := 1) rfl, _, rfl, a, _, 2, _, rfl, rfl, ha, atI_nat (j := 2) rfl, fun x dx hx hdx ne => ?_⟩
          have e0 : Kl H (L2.upd (L2.upd H dx (.own x)) x (.ins C dx [])) := fun b u e _ => by
            rw [upd_ne (ne_of_none e hx), upd_ne (ne_of_none e hdx)]; exact e
          refine ⟨x, dx, z, _, _, rs, es, rfl, upd_same, h2.mv e0, h3.mv e0, hg, hz, hl, fun H' hC hk => ⟨rfl, k x H' hC fun b u e => ?_⟩⟩
          refine hk b u ?_ (ne_of_none e hx)
          rw [upd_ne (ne_of_none e hx), upd_ne (ne_of_none e hdx)]; exact e
/-- the law's own walk -/
def spWalk (K : PySem.W.Frag) : Sp := fun vs H Q _ => ∃ (t : V) (s : Int) (z y : Str) (rs : List Row) (es : List Int), vs = [t, .int s, .str y] ∧ Dp K H t (codeD z rs es) ∧ GoodS z.length rs ∧ (∀ c ∈ TL.tl y, c ∈ TL.tl z) ∧ 0 ≤ s ∧ s < rs.length ∧
  ∀ (t : Addr) (H' : Hp), Same H H' → H' t = some (.tup [.int (walkR rs (TL.tl z) s (TL.tl y)).1, .int (walkR rs (TL.tl z) s (TL.tl y)).2]) → Q (.ref t) H'
abbrev s__law_walk : Stmt := top 26
abbrev N__law_walk : List Str := ["_law_code_here", "_law_state", "_law_word", "_law_spent", "_law_letter", "_law_bits_here"]
abbrev P__law_walk : List Str := ["_law_code_here", "_law_state", "_law_word"]
theorem sc__law_walk : FnScope N__law_walk P__law_walk (defScope s__law_walk) := ⟨rfl, rfl, rfl, by decide +kernel, rfl, by decide +kernel, by decide +kernel⟩

theorem ok_walk {f : Addr} {fd : FuncData} (F : Fun K "_law_walk" "_law_walk" s__law_walk f fd) : FnOk P w K mg base CX0 1 f fd P__law_walk (spWalk K) := by
  refine F.ok sc__law_walk (fun vs H Q E h => ?_) (fun cdv A outer s H vs Q E hr h => ?_)
  · obtain ⟨o, s, z, y, rs, es, rfl, _⟩ := h
    rfl
  · obtain ⟨o, s0, z, y, rs, es, rfl, hD, hg, hy, h0, h1, k⟩ := h
    refine ⟨_, (pss_cons (ps_set (i := 3) sc__law_walk.nd rfl (Or.inl rfl) pe_int)
      (pss_cons (ps_for PassesOwn.never rfl (pi_str (pv 2)) (pg_name (i := 4) sc__law_walk.nd rfl (Or.inl rfl)) (pss_cons (ps_asg (pe_ix ix_list (pe_ix ix_list (pe_ix ix_tup (pv 0) pe_int (fun _ _ => rfl)) (pv 1) (fun _ _ => rfl)) (pe_m1 PySem.F.slot_str_index PySem.F.type_str_index mt_sindex (pe_ix ix_tup (pv 0) pe_int (fun _ _ => rfl)) (pv 4)) (fun _ _ => rfl)) (pg_tup (by rfl) (pgs_cons (pg_name (i := 1) sc__law_walk.nd rfl (Or.inl rfl)) (pgs_cons (pg_name (i := 5) sc__law_walk.nd rfl (Or.inl rfl)) pgs_nil))))
      (pss_one (ps_set (i := 3) sc__law_walk.nd rfl (Or.inl rfl) (pe_op op_add (pv 3) (pv 5))))))
      (pss_one (ps_ret (pe_tup (pa_cons (pv 1) (pa_cons (pv 3) pa_nil))))))), ?_⟩
    obtain ⟨a, xs0, rfl, ha, hx⟩ := hD.tupE
    have lz : (TL.tl z).length = z.length := (TL.len_tl z).symm
    cases hx with
    | cons g1 hx =>
      obtain rfl := g1.strE
      cases hx with
      | cons hR hx =>
        cases hx with
        | cons hE hx =>
          cases hx
          obtain ⟨ra, xs, rfl, hR1, hR2⟩ := hR.listE
          refine ⟨_, rfl, y, rfl, for_it walk_strS (fun i σ H1 => ∃ v4 v5 : Option V, σ = [some (.ref a), some (.int (walkR rs (TL.tl z) s0 ((TL.tl y).take i)).1), some (.str y), some (.int (walkR rs (TL.tl z) s0 ((TL.tl y).take i)).2), v4, v5] ∧ H1 = H)
            ⟨none, none, rfl, rfl⟩ (fun _ _ _ _ _ => trivial) ?_ ?_⟩
          · rintro i x σ H2 H1 hi ⟨v4, v5, rfl, rfl⟩ ⟨rfl, c, hc, rfl⟩
            obtain ⟨hlt, he⟩ := List.getElem?_eq_some_iff.mp hc
            obtain ⟨a0, a1⟩ := walkR_ok hg lz h0 h1 hy i (Nat.le_of_lt hlt)
            have hcz : c ∈ TL.tl z := hy c (by rw [← he]; exact List.getElem_mem hlt)
            have hidx : (TL.tl z).idxOf c < z.length := by rw [← lz]; exact idx_lt hcz
            obtain ⟨g1, g2, ge, gb0, gb1⟩ := at_row hg a0 a1 hidx
            rw [walkR_more hlt, he]
            revert a0 a1 g1 g2 ge gb0 gb1
            generalize walkR rs (TL.tl z) s0 ((TL.tl y).take i) = sp
            intro a0 a1 g1 g2 ge gb0 gb1
            obtain ⟨v, hv, hrow⟩ := hR2.get (i := sp.1.toNat) (d := rowD rs[sp.1.toNat]) (by rw [List.getElem?_map, List.getElem?_eq_getElem g1]; rfl)
            obtain ⟨w5, ts, rfl, hw1, hw2⟩ := hrow.listE
            obtain ⟨v', hv', htup⟩ := hw2.get (i := (TL.tl z).idxOf c) (d := tupD rs[sp.1.toNat][(TL.tl z).idxOf c]) (by rw [List.getElem?_map, List.getElem?_eq_getElem g2]; rfl)
            obtain ⟨tt, us, rfl, ht1, ht2⟩ := htup.tupE
            obtain ⟨rest, hocc⟩ := occ_sg hcz
            cases ht2 with
            | cons hA hB =>
              obtain rfl := hA.intE
              cases hB with
              | cons hB hC =>
                obtain rfl := hB.intE
                cases hC
                refine ⟨_, rfl, a, _, 1, _, rfl, rfl, ha, atI_nat (j := 1) rfl, _, rfl, ra, xs, sp.1, _, rfl, rfl, hR1, at_of (Int.toNat_of_nonneg a0).symm hv, ?_⟩
                refine ⟨_, rfl, a, _, 0, _, rfl, rfl, ha, atI_nat (j := 0) rfl, ⟨_, rfl⟩, _, rfl, z, sg c, _, rest, rfl, rfl, hocc, ?_⟩
                refine ⟨w5, ts, _, _, rfl, rfl, hw1, at_of rfl hv', ?_⟩
                refine ⟨tt, _, rfl, ht1, rfl, _, _, rfl, _, _, rfl, rfl, ?_⟩
                refine ⟨_, rfl, _, rfl, _, _, rfl, rfl, some (.str (sg c)), some (.int (rs[sp.1.toNat][(TL.tl z).idxOf c]).2), ?_, rfl⟩
                have e1 : stepR rs (TL.tl z) sp c = ((rs[sp.1.toNat][(TL.tl z).idxOf c]).1, sp.2 + (rs[sp.1.toNat][(TL.tl z).idxOf c]).2) := by
                  unfold stepR
                  simp only [ge]
                rw [e1]
                rfl
          · rintro σ H1 ⟨v4, v5, rfl, rfl⟩
            refine ⟨_, rfl, _, rfl, by show 2 ≤ sizeLine; decide, fun t ht => k t _ (same_new ht) ?_⟩
            rw [upd_same, TL.len_tl, List.take_length]
def spLLen (K : PySem.W.Frag) : Sp := fun vs H Q _ => ∃ (t : V) (z y : Str) (rs : List Row) (es : List Int), vs = [t, .str y] ∧ Dp K H t (codeD z rs es) ∧ GoodS z.length rs ∧ es.length = rs.length ∧ 0 < rs.length ∧ (∀ c ∈ TL.tl y, c ∈ TL.tl z) ∧
  ∀ H', Same H H' → Q (.int (lenR rs es (TL.tl z) (TL.tl y))) H'
abbrev s__law_length : Stmt := top 27
abbrev N__law_length : List Str := ["_law_code_here", "_law_column_here", "_law_state", "_law_spent"]
abbrev P__law_length : List Str := ["_law_code_here", "_law_column_here"]
theorem sc__law_length : FnScope N__law_length P__law_length (defScope s__law_length) := ⟨rfl, rfl, rfl, by decide +kernel, rfl, by decide +kernel, by decide +kernel⟩

theorem ok_llen {f fW : Addr} {fd fdW : FuncData} (F : Fun K "_law_length" "_law_length" s__law_length f fd) (m_law_walk : mg "_law_walk" = some (.ref fW)) (k_law_walk : PySem.W.keepIn K (.ref fW) = true) (FW : Fun K "_law_walk" "_law_walk" s__law_walk fW fdW) (b_law_walk : Binds K fdW P__law_walk []) : FnOk P w K mg base CX0 2 f fd P__law_length (spLLen K) := by
  have G_law_walk : FnOk P w K mg base CX0 1 fW fdW P__law_walk (spWalk K) := ok_walk FW
  refine F.ok sc__law_length (fun vs H Q E h => ?_) (fun cdv A outer s H vs Q E hr h => ?_)
  · obtain ⟨o, z, y, rs, es, rfl, _⟩ := h
    rfl
  · obtain ⟨o, z, y, rs, es, rfl, hD, hg, hl, hp, hy, k⟩ := h
    refine ⟨_, (pss_cons (ps_asg (pe_call G_law_walk (hr.mono (by decide)) (by rfl) m_law_walk k_law_walk b_law_walk .nil pass0 (pa_cons (pv 0) (pa_cons pe_int (pa_cons (pv 1) pa_nil)))) (pg_tup (by rfl) (pgs_cons (pg_name (i := 2) sc__law_length.nd rfl (Or.inl rfl)) (pgs_cons (pg_name (i := 3) sc__law_length.nd rfl (Or.inl rfl)) pgs_nil))))
      (pss_one (ps_ret (pe_op op_add (pv 3) (pe_ix ix_list (pe_ix ix_tup (pv 0) pe_int (fun _ _ => rfl)) (pv 2) (fun _ _ => rfl)))))), ?_⟩
    refine ⟨_, rfl, _, rfl, o, 0, z, y, rs, es, rfl, hD, hg, hy, by decide, by omega, fun t H2 s2 ht => ?_⟩
    obtain ⟨w0, w1⟩ := walkR_ok hg (TL.len_tl z).symm (s := 0) (by decide) (by omega) hy (TL.tl y).length (Nat.le_refl _)
    rw [List.take_length] at w0 w1
    have he : (walkR rs (TL.tl z) 0 (TL.tl y)).1.toNat < es.length := by omega
    obtain ⟨a, xs, rfl, ha, hx⟩ := (hD.mv (Kl.same s2)).tupE
    cases hx with
    | cons h1 hx =>
      cases hx with
      | cons h2 hx =>
        cases hx with
        | cons h3 hx =>
          cases hx
          obtain ⟨ea, ys, rfl, hE1, hE2⟩ := h3.listE
          obtain rfl := dpAll_intsE hE2
          refine ⟨t, _, rfl, SqT.of ht, rfl, _, _, rfl, _, _, rfl, rfl, ?_⟩
          refine ⟨_, rfl, _, rfl, a, _, 2, _, rfl, rfl, ha, atI_nat (j := 2) rfl, _, rfl, ea, _, _, _, rfl, rfl, hE1, at_of (Int.toNat_of_nonneg w0).symm (by rw [List.getElem?_map, List.getElem?_eq_getElem he]; rfl), _, _, rfl, rfl, ?_⟩
          have e : lenR rs es (TL.tl z) (TL.tl y) = (walkR rs (TL.tl z) 0 (TL.tl y)).2 + es[(walkR rs (TL.tl z) 0 (TL.tl y)).1.toNat] := by
            unfold lenR
            rw [List.getD_eq_getElem?_getD, List.getElem?_eq_getElem he]
            rfl
          have := k H2 s2
          rw [e] at this
          exact this
end
end Vf
set_option Elab.async false
set_option linter.all false
set_option maxRecDepth 100000
set_option maxHeartbeats 4000000
namespace Vf
open PySem L2 PyProof.Rows
section
variable {P : Program} {w : World} {K : PySem.W.Frag} {mg : Str → Option Value} {base : Heap}
/-- a drawn column -/
def spCol : Sp := fun vs H Q _ => ∃ (p c : Addr) (z : Str) (most n : Nat), vs = [.ref p, .str z, .int most] ∧ Pen H p c n ∧ n ≤ 2 ^ 29 ∧ most ≤ 100 ∧ 0 < z.length ∧ z.length ≤ 26 ∧
  ∀ (y : Str) (H' : Hp), y.length ≤ most → (∀ x ∈ TL.tl y, x ∈ TL.tl z) → Pen H' p c (n + 300) → Kp p H H' → Q (.str y) H'
abbrev s__law_column : Stmt := top 28
abbrev N__law_column : List Str := ["_law_pen_here", "_law_letters_here", "_law_most", "_law_many", "_law_found", "_law_place", "_law_again"]
abbrev P__law_column : List Str := ["_law_pen_here", "_law_letters_here", "_law_most"]
theorem sc__law_column : FnScope N__law_column P__law_column (defScope s__law_column) := ⟨rfl, rfl, rfl, by decide +kernel, rfl, by decide +kernel, by decide +kernel⟩

theorem ok_col {f fD fP : Addr} {fd fdD fdP : FuncData} (F : Fun K "_law_column" "_law_column" s__law_column f fd) (T : TxtP K mg fD fP) (FD : Fun K "_law_draw" "_law_draw" s__law_draw fD fdD) (b_law_draw : Binds K fdD P__law_draw [])
    (FP : Fun K "_law_pick" "_law_pick" s__law_pick fP fdP) (b_law_pick : Binds K fdP P__law_pick []) : FnOk P w K mg base CX0 3 f fd P__law_column spCol := by
  have G_law_draw : FnOk P w K mg base CX0 1 fD fdD P__law_draw spDraw := ok_draw FD T.toTxtA
  have G_law_pick : FnOk P w K mg base CX0 2 fP fdP P__law_pick spPickS := ok_pickS FP T.toTxtD FD b_law_draw
  refine F.ok sc__law_column (fun vs H Q E h => ?_) (fun cdv A outer s H vs Q E hr h => ?_)
  · obtain ⟨p, c, z, most, n, rfl, _⟩ := h
    rfl
  · obtain ⟨p, c, z, most, n, rfl, hp, hn, hm, hz0, hz, k⟩ := h
    refine ⟨_, (pss_cons (ps_par (i := 3) (j := 4) (by rfl) sc__law_column.nd rfl rfl (by decide) rfl rfl (pa_cons (pe_call G_law_draw (hr.mono (by decide)) (by rfl) T.m_law_draw T.k_law_draw b_law_draw .nil pass0 (pa_cons (pv 0) (pa_cons (pe_op op_add (pv 2) pe_int) pa_nil))) (pa_cons pe_str pa_nil)) (by rfl))
      (pss_cons (ps_for PassesOwn.never rfl (pi_range1 (by rfl) T.range (pa_cons (pv 3) pa_nil)) (pg_name (i := 5) sc__law_column.nd rfl (Or.inl rfl)) (pss_cons (ps_set (i := 6) sc__law_column.nd rfl (Or.inl rfl) (pe_and (pe_cmpR op_ne (pv 4) pe_str (nomark _)) (pe_one (pe_cmpR op_eq (pe_call G_law_draw (hr.mono (by decide)) (by rfl) T.m_law_draw T.k_law_draw b_law_draw .nil pass0 (pa_cons (pv 0) (pa_cons pe_int pa_nil))) pe_int (nomark _)))))
      (pss_one (ps_set (i := 4) sc__law_column.nd rfl (Or.inl rfl) (pe_op op_add_str (pv 4) (pe_ifExp (pt_val (pv 6)) (pe_ix ix_str (pv 4) (pe_un un_neg pe_int) (fun _ _ => rfl)) (pe_call G_law_pick (hr.mono (by decide)) (by rfl) T.m_law_pick T.k_law_pick b_law_pick .nil pass0 (pa_cons (pv 0) (pa_cons (pv 1) pa_nil)))))))))
      (pss_one (ps_ret (pv 4))))), ?_⟩
    refine ⟨_, rfl, _, rfl, _, _, rfl, rfl, p, c, _, n, rfl, hp, by omega, by omega, by omega, fun d H1 d0 d1 hp1 k1 => ⟨_, _, rfl, ?_⟩⟩
    refine ⟨_, rfl, d, rfl, by omega, by omega, for_range (n := d.toNat) (fun i σ H2 => ∃ (y : Str) (v5 v6 : Option V), σ = [some (.ref p), some (.str z), some (.int most), some (.int d), some (.str y), v5, v6] ∧
      y.length = i ∧ (∀ x ∈ TL.tl y, x ∈ TL.tl z) ∧ Pen H2 p c (n + 1 + i * 2) ∧ Kp p H H2) ⟨Str.empty, none, none, rfl, rfl, (fun x hx => nomatch hx), hp1, k1⟩ ?_ ?_⟩
    · rintro i σ H2 hi ⟨y, v5, v6, rfl, hl, hy, hp2, k2⟩
      have hys : y.length ≤ sizeLine := Nat.le_of_lt (small1000 (by omega))
      -- again = found != '' and draw(pen, 3) == 0
      refine ⟨_, rfl, rfl, _, rfl, ite2 (fun c1 => ?_) (fun c1 => ?_)⟩
      · have hne : TL.tl y ≠ [] := by
          intro e
          have : y = Str.empty := TL.ext_tl e
          subst this
          simp at c1
          exact c1 rfl
        have h0 : 0 < y.length := by rw [TL.len_tl]; exact List.length_pos_iff.mpr hne
        refine ⟨_, rfl, p, c, 3, _, rfl, hp2, by omega, by decide, by decide, fun g H3 g0 g1 hp3 k3 => ⟨rfl, ?_⟩⟩
        refine ⟨_, rfl, _, rfl, _, rfl, ite2 (fun c2 => ?_) (fun c2 => ?_)⟩
        · refine ⟨_, rfl, 1, rfl, y, -1, (TL.tl y).getLast hne, rfl, rfl, hys, ?_, _, _, rfl, rfl, ?_, ?_⟩
          · have e := List.dropLast_concat_getLast hne
            have := atI_last (TL.tl y).dropLast ((TL.tl y).getLast hne)
            rw [e] at this
            exact this
          · show y.length + 1 ≤ sizeLine
            exact Nat.le_of_lt (small1000 (by omega))
          · refine ⟨_, _, _, rfl, ?_, ?_, hp3.mono (by omega), k2.trans k3⟩
            · rw [TL.len_tl, TL.tl_append, List.length_append, ← TL.len_tl, hl]; rfl
            · intro x hx
              rw [TL.tl_append] at hx
              rcases List.mem_append.mp hx with h | h
              · exact hy x h
              · have h : x ∈ [(TL.tl y).getLast hne] := h
                rw [List.mem_singleton.mp h]; exact hy _ (List.getLast_mem hne)
        · refine ⟨_, rfl, _, rfl, p, c, z, _, rfl, hp3, by omega, hz0, by omega, fun j x H4 hx hp4 k4 => ?_⟩
          refine ⟨_, _, rfl, rfl, ?_, ?_⟩
          · show y.length + 1 ≤ sizeLine
            exact Nat.le_of_lt (small1000 (by omega))
          · refine ⟨_, _, _, rfl, ?_, ?_, hp4.mono (by omega), (k2.trans k3).trans k4⟩
            · rw [TL.len_tl, TL.tl_append, List.length_append, ← TL.len_tl, hl]; rfl
            · intro x' hx'
              rw [TL.tl_append] at hx'
              rcases List.mem_append.mp hx' with h | h
              · exact hy x' h
              · have h : x' ∈ [x] := h
                rw [List.mem_singleton.mp h]; exact List.mem_of_getElem? hx
      · refine ⟨_, rfl, _, rfl, _, rfl, ite2 (fun c2 => absurd c2 (by simp)) (fun _ => ?_)⟩
        refine ⟨_, rfl, _, rfl, p, c, z, _, rfl, hp2, by omega, hz0, by omega, fun j x H4 hx hp4 k4 => ?_⟩
        refine ⟨_, _, rfl, rfl, ?_, ?_⟩
        · show y.length + 1 ≤ sizeLine
          exact Nat.le_of_lt (small1000 (by omega))
        · refine ⟨_, _, _, rfl, ?_, ?_, hp4.mono (by omega), k2.trans k4⟩
          · rw [TL.len_tl, TL.tl_append, List.length_append, ← TL.len_tl, hl]; rfl
          · intro x' hx'
            rw [TL.tl_append] at hx'
            rcases List.mem_append.mp hx' with h | h
            · exact hy x' h
            · have h : x' ∈ [x] := h
              rw [List.mem_singleton.mp h]; exact List.mem_of_getElem? hx
    · rintro σ H2 ⟨y, v5, v6, rfl, hl, hy, hp2, k2⟩
      exact ⟨_, rfl, k y H2 (by omega) hy (hp2.mono (by omega)) k2⟩
/-- told: the length, or the pair of the error -/
def spTold (K : PySem.W.Frag) (C : Addr) : Sp := fun vs H Q _ => ∃ (o : Addr) (z y : Str) (rs : List Row) (es : List Int), vs = [.ref o, .str y] ∧ CodeAt K C H o z rs es ∧ GoodS z.length rs ∧ es.length = rs.length ∧ 0 < rs.length ∧ z.length ≤ 26 ∧
  (strange z y = none → ∀ H', Same H H' → Q (.int (lenR rs es (TL.tl z) (TL.tl y))) H') ∧ (∀ i, strange z y = some i → ∀ t H', Same H H' → H' t = some (.tup [.str "value", .int i]) → Q (.ref t) H')
abbrev s__law_told : Stmt := top 29
abbrev N__law_told : List Str := ["_law_code_here", "_law_column_here", "_law_told_here", "e"]
abbrev P__law_told : List Str := ["_law_code_here", "_law_column_here"]
theorem sc__law_told : FnScope N__law_told P__law_told (defScope s__law_told) := ⟨rfl, rfl, rfl, by decide +kernel, rfl, by decide +kernel, by decide +kernel⟩

theorem ok_told {f fL fCS fSP B C CV fV fCL fRun : Addr} {fd fdL fdSP fdV fdCL fdR : FuncData} (F : Fun K "_law_told" "_law_told" s__law_told f fd) (T : TxtL K mg C fCS fSP B CV fV fCL fRun) (mtLen : Meth K C "length" fL) (FL : Fun K "length" "Code.length" s_Code_length fL fdL) (bL : Binds K fdL P_Code_length [])
    (FSP : Fun K "strange_place" "strange_place" s_strange_place fSP fdSP) (bstrange_place : Binds K fdSP P_strange_place [])
    (FV : Fun K "__init__" "BadValue.__init__" s_BadValue___init__ fV fdV) (bV : Binds K fdV P_BadValue___init__ []) (FCL : Fun K "check_letters" "Code.check_letters" s_Code_check_letters fCL fdCL) (bCL : Binds K fdCL P_Code_check_letters [])
    (FR : Fun K "run" "Code.run" s_Code_run fRun fdR) (bR : Binds K fdR P_Code_run []) (te : PySem.W.exmOne K (.ref CV) (.ref CV) = some true) : FnOk P w K mg base CX0 5 f fd P__law_told (spTold K C) := by
  have GL : FnOk P w K mg base (L2.CX P w) 4 fL fdL P_Code_length (spLen K C CV) := ok_len FL T FSP bstrange_place FV bV FCL bCL FR bR
  refine F.ok sc__law_told (fun vs H Q E h => ?_) (fun cdv A outer s H vs Q E hr h => ?_)
  · obtain ⟨o, z, y, rs, es, rfl, _⟩ := h
    rfl
  · obtain ⟨o, z, y, rs, es, rfl, hC, hg, hl, hp, hz, kq, ke⟩ := h
    refine ⟨_, pss_cons (ps_try_as (i := 3) (tb := fun W => tAsg (tMethV C "length" (spLen K C CV) (WE W) (tVar 0) (tCons (tVar 1) tNil)) (gName 2)) (ts := fun a cls d => tRet (tTup (tCons (tC (.str "value")) (tCons (tXf a cls d CV "place" (tVar 3)) tNil)))) (Wout := fun _ _ _ _ => False) rfl rfl sc__law_told.nd rfl rfl ⟨rfl, by decide, Or.inl T.bv.g⟩ takes0
        (fun W pn xe tk _ => pss_one (ps_set (i := 2) sc__law_told.nd rfl (Or.inl rfl) (by exact (pe_methV (pv 0) T.cl mtLen GL (hr.mono (by decide)) bL (fun σ => passAt tk σ) (by exact (pa_cons (pv 1) pa_nil))))))
        (fun a oe cls d pn hz hf => pss_one (ps_ret (by exact (pe_tup (pa_cons pe_str (pa_cons (pe_xf T.bv.xf T.bv.nf hz hf (pv 3)) pa_nil)))))))
      (pss_one (ps_ret (pv 2))), ?_⟩
    obtain ⟨dx, R, Ev, ho, hR, hE⟩ := id hC
    refine ⟨_, rfl, o, dx, _, rfl, ho, cf_no _ _ _ (by decide +kernel) (by decide +kernel) (by decide +kernel), _, rfl, o, z, y, rs, es, rfl, hC, hg, hl, hp, hz, fun hs H1 s1 => ?_, fun i hs d H1 hd => ?_⟩
    · exact ⟨_, rfl, kq hs H1 s1⟩
    · obtain ⟨hd0, hd1, hd2⟩ := hd
      refine ⟨true, te, fun _ a0 _ => ?_, fun q => Bool.noConfusion q⟩
      refine ⟨_, rfl, rfl, rfl, d, _, V.int i, rfl, hd1, by simp [List.lookup], by show 2 ≤ sizeLine; decide, fun t ht => ?_⟩
      exact ke i hs t _ (hd2.trans (same_new ht)) upd_same
end
end Vf
set_option Elab.async false
set_option linter.all false
set_option maxRecDepth 100000
set_option maxHeartbeats 4000000
namespace Vf
open PySem L2 PyProof.Rows
/-- all that the law asks of the top -/
structure TxtW (K : PySem.W.Frag) (mg : Str → Option Value) (fD fP fB C fCS fSP B CV fV fCL fRun fPen fLe fCo fMa fWa fLL fCol fTo fLen : Addr) : Prop extends TxtB K mg fD fP fB, TxtL K mg C fCS fSP B CV fV fCL fRun where
  min : mg "min" = none
  isinstance : mg "isinstance" = none
  bool : mg "bool" = none
  m_law_pen : mg "_law_pen" = some (.ref fPen)
  k_law_pen : PySem.W.keepIn K (.ref fPen) = true
  m_law_letters : mg "_law_letters" = some (.ref fLe)
  k_law_letters : PySem.W.keepIn K (.ref fLe) = true
  m_law_code : mg "_law_code" = some (.ref fCo)
  k_law_code : PySem.W.keepIn K (.ref fCo) = true
  m_law_made_code : mg "_law_made_code" = some (.ref fMa)
  k_law_made_code : PySem.W.keepIn K (.ref fMa) = true
  m_law_walk : mg "_law_walk" = some (.ref fWa)
  k_law_walk : PySem.W.keepIn K (.ref fWa) = true
  m_law_length : mg "_law_length" = some (.ref fLL)
  k_law_length : PySem.W.keepIn K (.ref fLL) = true
  m_law_column : mg "_law_column" = some (.ref fCol)
  k_law_column : PySem.W.keepIn K (.ref fCol) = true
  m_law_told : mg "_law_told" = some (.ref fTo)
  k_law_told : PySem.W.keepIn K (.ref fTo) = true
  mtLen : Meth K C "length" fLen
  te : PySem.W.exmOne K (.ref CV) (.ref CV) = some true
theorem CodeAt.kp {K : PySem.W.Frag} {C o p : Addr} {H H' : Hp} {z : Str} {rs : List Row} {es : List Int} {kvs : List (Key × V)} (c : CodeAt K C H o z rs es) (k : Kp p H H') (hp : H p = some (.dK kvs)) : CodeAt K C H' o z rs es := by
  obtain ⟨dx, R, E, h1, h2, h3⟩ := c
  exact ⟨dx, R, E, k _ _ h1 (ne_of h1 hp (by intro z; cases z)), h2.mv (Kl.kp k hp), h3.mv (Kl.kp k hp)⟩
theorem strange_no {z y : Str} (h : ∀ c ∈ TL.tl y, c ∈ TL.tl z) : strange z y = none := List.findIdx?_eq_none_iff.mpr fun c hc => by
  have := h c hc
  simp [this]
def abc : List Nat := TL.tl (Str.ofString "abcdefghijz")
theorem nodup_le : ∀ {l z : List Nat}, l.Nodup → (∀ x ∈ l, x ∈ z) → l.length ≤ z.length
  | [], _, _, _ => Nat.zero_le _
  | a :: l, z, hn, hs => by
    obtain ⟨h1, h2⟩ := List.nodup_cons.mp hn
    have ha : a ∈ z := hs a (List.mem_cons_self ..)
    have := nodup_le (l := l) (z := z.erase a) h2 fun x hx => (List.mem_erase_of_ne (fun e => h1 (by rw [← e]; exact hx))).mpr (hs x (List.mem_cons_of_mem _ hx))
    have h0 : 0 < z.length := List.length_pos_of_mem ha
    rw [List.length_erase_of_mem ha] at this
    show l.length + 1 ≤ z.length
    omega
theorem abc_more {z : List Nat} (h : z.length ≤ 3) : 0 < (abc.filter (fun x => decide (x ∉ z))).length := by
  cases e : abc.filter (fun x => decide (x ∉ z)) with
  | cons a r => exact Nat.succ_pos _
  | nil =>
    have hs : ∀ x ∈ abc, x ∈ z := fun x hx => by
      by_cases q : x ∈ z
      · exact q
      · have : x ∈ abc.filter (fun x => decide (x ∉ z)) := List.mem_filter.mpr ⟨hx, by simpa using q⟩
        rw [e] at this
        exact nomatch this
    have := nodup_le (by decide +kernel : abc.Nodup) hs
    have h11 : abc.length = 11 := by decide +kernel
    omega
theorem strange_at {z y : Str} {a r : List Nat} {c n : Nat} (e : TL.tl y = a ++ c :: r) (hn : a.length = n) (ha : ∀ x ∈ a, x ∈ TL.tl z) (hc : c ∉ TL.tl z) : strange z y = some n := by
  unfold strange
  rw [e, List.findIdx?_append]
  have h1 : List.findIdx? (fun c => decide (c ∉ TL.tl z)) a = none := List.findIdx?_eq_none_iff.mpr fun x hx => by simpa using ha x hx
  rw [h1, List.findIdx?_cons]
  simp [hc, hn]
theorem shaped_val (i : Int) : SeqAt.shaped (.tuple [.str (Str.ofString "value"), .int i]) = true := by
  have h : PyData.strOk (Str.ofString "value") = true := by decide +kernel
  simp [SeqAt.shaped, PyData.canLay0, PyData.canLayAll0, PyData.depth, PyData.depthAll, h]
def spLaw (K : PySem.W.Frag) : Sp := fun vs H Q _ => ∃ (a : Addr) (ns : List Int), vs = [.ref a] ∧ SqL K H a (ns.map V.int) ∧ ns.length ≤ 63 ∧ ∀ H', Q (.bl true) H'
section
variable {P : Program} {w : World} {K : PySem.W.Frag} {mg : Str → Option Value} {base : Heap}
abbrev s_law : Stmt := top 30
abbrev N_law : List Str := ["_law_script", "_law_pen_here", "_law_turn", "_law_letters_here", "_law_data", "_law_code_here", "_law_again", "_law_column_here", "_law_odd", "_law_at", "_law_more", "_law_strange", "_law_letter"]
abbrev P_law : List Str := ["_law_script"]
theorem sc_law : FnScope N_law P_law (defScope s_law) := ⟨rfl, rfl, rfl, by decide +kernel, rfl, by decide +kernel, by decide +kernel⟩

theorem ok_law {f fD fP fB C fCS fSP B CV fV fCL fRun fPen fLe fCo fMa fWa fLL fCol fTo fLen fI : Addr} {fd fdD fdP fdB fdI fdCS fdSP fdV fdCL fdR fdPen fdLe fdCo fdMa fdWa fdLL fdCol fdTo fdLen : FuncData} (F : Fun K "law" "law" s_law f fd) (T : TxtW K mg fD fP fB C fCS fSP B CV fV fCL fRun fPen fLe fCo fMa fWa fLL fCol fTo fLen)
    (FD : Fun K "_law_draw" "_law_draw" s__law_draw fD fdD) (b_law_draw : Binds K fdD P__law_draw []) (FP : Fun K "_law_pick" "_law_pick" s__law_pick fP fdP) (b_law_pick : Binds K fdP P__law_pick []) (FB : Fun K "_law_bits" "_law_bits" s__law_bits fB fdB) (b_law_bits : Binds K fdB P__law_bits [])
    (FI : Fun K "__init__" "Code.__init__" s_Code___init__ fI fdI) (bI : Binds K fdI P_Code___init__ []) (MCode : Mk K C fI) (FCS : Fun K "check_states" "check_states" s_check_states fCS fdCS) (bcheck_states : Binds K fdCS P_check_states [])
    (FSP : Fun K "strange_place" "strange_place" s_strange_place fSP fdSP) (bstrange_place : Binds K fdSP P_strange_place []) (FV : Fun K "__init__" "BadValue.__init__" s_BadValue___init__ fV fdV) (bV : Binds K fdV P_BadValue___init__ [])
    (FCL : Fun K "check_letters" "Code.check_letters" s_Code_check_letters fCL fdCL) (bCL : Binds K fdCL P_Code_check_letters []) (FR : Fun K "run" "Code.run" s_Code_run fRun fdR) (bR : Binds K fdR P_Code_run [])
    (FPen : Fun K "_law_pen" "_law_pen" s__law_pen fPen fdPen) (b_law_pen : Binds K fdPen P__law_pen []) (FLe : Fun K "_law_letters" "_law_letters" s__law_letters fLe fdLe) (b_law_letters : Binds K fdLe P__law_letters [])
    (FCo : Fun K "_law_code" "_law_code" s__law_code fCo fdCo) (b_law_code : Binds K fdCo P__law_code []) (FMa : Fun K "_law_made_code" "_law_made_code" s__law_made_code fMa fdMa) (b_law_made_code : Binds K fdMa P__law_made_code [])
    (FWa : Fun K "_law_walk" "_law_walk" s__law_walk fWa fdWa) (b_law_walk : Binds K fdWa P__law_walk []) (FLL : Fun K "_law_length" "_law_length" s__law_length fLL fdLL) (b_law_length : Binds K fdLL P__law_length [])
    (FCol : Fun K "_law_column" "_law_column" s__law_column fCol fdCol) (b_law_column : Binds K fdCol P__law_column []) (FTo : Fun K "_law_told" "_law_told" s__law_told fTo fdTo) (b_law_told : Binds K fdTo P__law_told [])
    (FLen : Fun K "length" "Code.length" s_Code_length fLen fdLen) (bLen : Binds K fdLen P_Code_length []) : FnOk P w K mg base CX0 6 f fd P_law (spLaw K) := by
  have G_law_pen : FnOk P w K mg base CX0 1 fPen fdPen P__law_pen (spPen K) := ok_pen FPen T.toTxtA
  have G_law_draw : FnOk P w K mg base CX0 1 fD fdD P__law_draw spDraw := ok_draw FD T.toTxtA
  have G_law_pick : FnOk P w K mg base CX0 2 fP fdP P__law_pick (spPickL K) := ok_pickL FP T.toTxtD FD b_law_draw
  have G_law_letters : FnOk P w K mg base CX0 2 fLe fdLe P__law_letters spLetters := ok_letters FLe T.toTxtD FD b_law_draw
  have G_law_code : FnOk P w K mg base CX0 4 fCo fdCo P__law_code (spCode K) := ok_code FCo T.toTxtB FD b_law_draw FP b_law_pick FB b_law_bits
  have G_law_made_code : FnOk P w K mg base CX0 4 fMa fdMa P__law_made_code (spMade K C) := ok_made FMa T.toTxtK MCode FI bI FCS bcheck_states
  have G_law_length : FnOk P w K mg base CX0 2 fLL fdLL P__law_length (spLLen K) := ok_llen FLL T.m_law_walk T.k_law_walk FWa b_law_walk
  have G_law_column : FnOk P w K mg base CX0 3 fCol fdCol P__law_column spCol := ok_col FCol T.toTxtP FD b_law_draw FP b_law_pick
  have G_law_told : FnOk P w K mg base CX0 5 fTo fdTo P__law_told (spTold K C) := ok_told FTo T.toTxtL T.mtLen FLen bLen FSP bstrange_place FV bV FCL bCL FR bR T.te
  have GLen : FnOk P w K mg base (L2.CX P w) 4 fLen fdLen P_Code_length (spLen K C CV) := ok_len FLen T.toTxtL FSP bstrange_place FV bV FCL bCL FR bR
  refine F.ok sc_law (fun vs H Q E h => ?_) (fun cdv A outer s H vs Q E hr h => ?_)
  · obtain ⟨a, ns, rfl, _⟩ := h
    rfl
  · obtain ⟨a, ns, rfl, hS, hlen, k⟩ := h
    refine ⟨_, (pss_cons (ps_set (i := 1) sc_law.nd rfl (Or.inl rfl) (pe_call G_law_pen (hr.mono (by decide)) (by rfl) T.m_law_pen T.k_law_pen b_law_pen .nil pass0 (pa_cons (pv 0) pa_nil)))
      (pss_cons (ps_for PassesOwn.never rfl (pi_range1 (by rfl) T.range (pa_cons (pe_op op_add pe_int (pe_callB (call_min2 rfl) (by rfl) T.min boot_min (pa_cons pe_int (pa_cons (pe_callB call_len (by rfl) T.len PySem.boot_len (pa_cons (pv 0) pa_nil)) pa_nil)))) pa_nil)) (pg_name (i := 2) sc_law.nd rfl (Or.inl rfl)) (pss_cons (ps_set (i := 3) sc_law.nd rfl (Or.inr rfl) (pe_call G_law_letters (hr.mono (by decide)) (by rfl) T.m_law_letters T.k_law_letters b_law_letters .nil pass0 (pa_cons (pv 1) (pa_cons (pe_op op_add pe_int (pe_call G_law_draw (hr.mono (by decide)) (by rfl) T.m_law_draw T.k_law_draw b_law_draw .nil pass0 (pa_cons (pv 1) (pa_cons pe_int pa_nil)))) pa_nil))))
      (pss_cons (ps_set (i := 4) sc_law.nd rfl (Or.inl rfl) (pe_call G_law_code (hr.mono (by decide)) (by rfl) T.m_law_code T.k_law_code b_law_code .nil pass0 (pa_cons (pv 1) (pa_cons (pv 3) (pa_cons pe_int pa_nil)))))
      (pss_cons (ps_set (i := 5) sc_law.nd rfl (Or.inl rfl) (pe_call G_law_made_code (hr.mono (by decide)) (by rfl) T.m_law_made_code T.k_law_made_code b_law_made_code .nil pass0 (pa_cons (pv 4) pa_nil)))
      (pss_cons (ps_for PassesOwn.never rfl (pi_range1 (by rfl) T.range (pa_cons pe_int pa_nil)) (pg_name (i := 6) sc_law.nd rfl (Or.inl rfl)) (pss_cons (ps_set (i := 7) sc_law.nd rfl (Or.inl rfl) (pe_call G_law_column (hr.mono (by decide)) (by rfl) T.m_law_column T.k_law_column b_law_column .nil pass0 (pa_cons (pv 1) (pa_cons (pv 3) (pa_cons (pe_call G_law_pick (hr.mono (by decide)) (by rfl) T.m_law_pick T.k_law_pick b_law_pick .nil pass0 (pa_cons (pv 1) (pa_cons (pe_lst (pa_cons pe_int (pa_cons pe_int (pa_cons pe_int pa_nil)))) pa_nil))) pa_nil)))))
      (pss_cons (ps_if (PW.pt (pw_or (pt_cmpR op_ne (pe_call G_law_told (hr.mono (by decide)) (by rfl) T.m_law_told T.k_law_told b_law_told .nil pass0 (pa_cons (pv 5) (pa_cons (pv 7) pa_nil))) (pe_call G_law_length (hr.mono (by decide)) (by rfl) T.m_law_length T.k_law_length b_law_length .nil pass0 (pa_cons (pv 4) (pa_cons (pv 7) pa_nil))) (nomark _)) (pw_or1 (pt_val (pe_callB call_isi (by rfl) T.isinstance boot_isinstance (pa_cons (pe_meth (pv 5) T.cl T.mtLen GLen (hr.mono (by decide)) bLen .nil passL (pa_cons (pv 7) pa_nil)) (pa_cons (pe_bltn (v := .ty "bool") (by rfl) T.bool (by decide +kernel) rfl) pa_nil))))))) (pss_one (ps_ret pe_bl)) pss_nil)
      (pss_cons (ps_set (i := 8) sc_law.nd rfl (Or.inl rfl) (pe_call G_law_pick (hr.mono (by decide)) (by rfl) T.m_law_pick T.k_law_pick b_law_pick .nil pass0 (pa_cons (pv 1) (pa_cons (pe_lc (own := [("_law_letter", 12)]) (g := gName 12) (by rfl) sc_law.nd (pi_str pe_str) (blkOk_by (own := [("_law_letter", 12)]) (N := N_law) (sc := defScope s_law) (by decide +kernel)) (fun _ _ _ _ _ => pg_name (i := 12) sc_law.nd rfl (Or.inl rfl)) (fun _ _ _ _ _ => (pts_one (pt_cmpR op_notIn_sign (pv 12) (pv 3) (by rfl)))) (fun _ _ _ _ _ => (pv 12))) pa_nil))))
      (pss_cons (ps_par (i := 9) (j := 10) (by rfl) sc_law.nd rfl rfl (by decide) rfl rfl (pa_cons (pe_call G_law_draw (hr.mono (by decide)) (by rfl) T.m_law_draw T.k_law_draw b_law_draw .nil pass0 (pa_cons (pv 1) (pa_cons (pe_op op_add (pe_callB call_len (by rfl) T.len PySem.boot_len (pa_cons (pv 7) pa_nil)) pe_int) pa_nil))) (pa_cons (pe_call G_law_pick (hr.mono (by decide)) (by rfl) T.m_law_pick T.k_law_pick b_law_pick .nil pass0 (pa_cons (pv 1) (pa_cons (pe_lst (pa_cons pe_str (pa_cons (pv 8) (pa_cons (pv 3) pa_nil)))) pa_nil))) pa_nil)) (by rfl))
      (pss_cons (ps_set (i := 11) sc_law.nd rfl (Or.inl rfl) (pe_op op_add_str (pe_op op_add_str (pe_op op_add_str (pe_slice sl_str (pv 7) po_none (po_some (pv 9))) (pv 8)) (pe_slice sl_str (pv 7) (po_some (pv 9)) po_none)) (pv 10)))
      (pss_one (ps_if (pt_cmpR (op_neD hr.units) (pe_call G_law_told (hr.mono (by decide)) (by rfl) T.m_law_told T.k_law_told b_law_told .nil pass0 (pa_cons (pv 5) (pa_cons (pv 11) pa_nil))) (pe_tup (pa_cons pe_str (pa_cons (pv 9) pa_nil))) (nomark _)) (pss_one (ps_ret pe_bl)) pss_nil))))))))
      (pss_one (ps_if (pt_cmpR op_ne (pe_meth (pv 5) T.cl T.mtLen GLen (hr.mono (by decide)) bLen .nil passL (pa_cons pe_str pa_nil)) (pe_ix ix_list (pe_ix ix_tup (pv 4) pe_int (fun _ _ => rfl)) pe_int (fun _ _ => rfl)) (nomark _)) (pss_one (ps_ret pe_bl)) pss_nil)))))))
      (pss_one (ps_ret pe_bl)))), ?_⟩
    refine ⟨_, rfl, a, ns, rfl, hS, hlen, fun p c H1 hpn hcn hp1 s1 => ?_⟩
    have hJ : ∀ l : Nat, 0 ≤ 5 + (if (l : Int) < 8 then (l : Int) else 8) ∧ 5 + (if (l : Int) < 8 then (l : Int) else 8) ≤ 13 := fun l => by split <;> omega
    have hJ1 := hJ (ns.map V.int).length
    refine ⟨_, rfl, _, _, rfl, Or.inl ⟨_, s1.seq hS, rfl⟩, _, _, rfl, _, _, rfl, rfl, _, rfl, (by show -(2 ^ 62) ≤ 5 + (if ((ns.map V.int).length : Int) < 8 then ((ns.map V.int).length : Int) else 8); omega), (by show 5 + (if ((ns.map V.int).length : Int) < 8 then ((ns.map V.int).length : Int) else 8) < 2 ^ 62; omega),
      for_range (n := (5 + (if ((ns.map V.int).length : Int) < 8 then ((ns.map V.int).length : Int) else 8)).toNat) (fun i σ H2 => ∃ v2 v3 v4 v5 v6 v7 v8 v9 v10 v11 v12 : Option V, σ = [some (.ref a), some (.ref p), v2, v3, v4, v5, v6, v7, v8, v9, v10, v11, v12] ∧ Pen H2 p c (i * 7000))
      ⟨none, none, none, none, none, none, none, none, none, none, none, rfl, hp1⟩ ?_ ?_⟩
    · rintro i σ H2 hi ⟨v2, v3, v4, v5, v6, v7, v8, v9, v10, v11, v12, rfl, hp2⟩
      have hi13 : i < 13 := by omega
      refine ⟨_, rfl, _, rfl, p, c, 3, _, rfl, hp2, by omega, by decide, by decide, fun d H3 d0 d1 hp3 k3 => ⟨_, _, rfl, rfl, ?_⟩⟩
      obtain ⟨m, hm⟩ : ∃ m : Nat, 1 + d = m := ⟨(1 + d).toNat, by omega⟩
      refine ⟨p, c, m, _, (by show [V.ref p, V.int (1 + d)] = [V.ref p, V.int m]; rw [hm]), hp3, by omega, by omega, fun z H4 hz hp4 k4 => ?_⟩
      have hzl : z.length = m := hz.1
      refine ⟨_, rfl, _, rfl, p, c, z, 8, _, rfl, hp4, by omega, by decide, by decide, by omega, fun t rs es H5 hD hg hrl hp5 k5 => ?_⟩
      refine ⟨_, rfl, t, z, rs, es, rfl, hD, hg, by omega, by omega, fun o H6 hC s6 => ?_⟩
      refine ⟨6, rfl, by decide, by decide, for_range (n := 6) (fun j σ H7 => ∃ v6 v7 v8 v9 v10 v11 v12 : Option V, σ = [some (.ref a), some (.ref p), some (.int (0 + i)), some (.str z), some t, some (.ref o), v6, v7, v8, v9, v10, v11, v12] ∧
        Dp K H7 t (codeD z rs es) ∧ CodeAt K C H7 o z rs es ∧ Pen H7 p c (i * 7000 + 5100 + j * 310)) ⟨v6, v7, v8, v9, v10, v11, v12, rfl, hD.mv (Kl.same s6), hC, (hp5.same s6).mono (by omega)⟩ ?_ ?_⟩
      · rintro j σ H7 hj ⟨v6, v7, v8, v9, v10, v11, v12, rfl, hD7, hC7, hp7⟩
        -- the column
        refine ⟨_, rfl, _, rfl, _, rfl, (by show 3 ≤ sizeLine; decide), fun q hq => ?_⟩
        refine ⟨p, c, q, _, _, rfl, hp7.same (same_new hq), by omega, SqL.of upd_same, (by show 0 < 3; decide), (by show 3 ≤ 1000; decide), fun jj v H8 hv hp8 k8 => ?_⟩
        have hv' : ∃ mm : Nat, v = .int mm ∧ mm ≤ 60 := by
          have hm := List.mem_of_getElem? hv
          simp only [List.mem_cons, List.not_mem_nil, or_false] at hm
          rcases hm with e | e | e
          · exact ⟨4, e, by decide⟩
          · exact ⟨9, e, by decide⟩
          · exact ⟨60, e, by decide⟩
        obtain ⟨mm, rfl, hmm⟩ := hv'
        refine ⟨p, c, z, mm, _, rfl, hp8, by omega, by omega, by omega, by omega, fun y H9 hy1 hy2 hp9 k9 => ?_⟩
        have k79 : Kp p H7 H9 := (Kp.of (same_new hq)).trans (k8.trans k9)
        obtain ⟨kv7, hd7⟩ := hp7.dk
        have hD9 := hD7.mv (Kl.kp k79 hd7)
        have hC9 := hC7.kp k79 hd7
        have hs := strange_no hy2
        have hys : y.length ≤ sizeLine := Nat.le_of_lt (small1000 (by omega))
        clear k79 hD7 hC7 hv
        -- the two lengths
        refine ⟨_, rfl, _, rfl, o, z, y, rs, es, rfl, hC9, hg.s, hg.len, hg.pos, by omega, fun _ H10 s10 => ?_, fun i' hs' => by rw [hs] at hs'; cases hs'⟩
        refine ⟨_, rfl, _, rfl, t, z, y, rs, es, rfl, hD9.mv (Kl.same s10), hg.s, hg.len, hg.pos, hy2, fun H11 s11 => ?_⟩
        refine ⟨rfl, _, rfl, ite2 (fun c1 => absurd c1 (by simp)) (fun _ => ?_)⟩
        have s911 : Same H9 H11 := s10.trans s11
        obtain ⟨dx, R, Ev, ho, hR, hE⟩ := id (hC9.same s911)
        refine ⟨_, rfl, o, dx, _, rfl, ho, cf_no _ _ _ (by decide +kernel) (by decide +kernel) (by decide +kernel), _, rfl, o, z, y, rs, es, rfl, hC9.same s911, hg.s, hg.len, hg.pos, by omega, fun _ H12 s12 => ?_, fun i' hs' => by rw [hs] at hs'; cases hs'⟩
        refine ⟨_, _, .type "int", .type "bool", false, rfl, .ty _, .base (.int _), kit_ty (by decide +kernel), _, rfl, ite2 (fun c1 => absurd c1 (by decide)) (fun _ => ?_)⟩
        have s912 : Same H9 H12 := s911.trans s12
        have hp12 := hp9.same s912
        have hD12 := hD9.mv (Kl.same s912)
        have hC12 := hC9.same s912
        clear s12 s911 s10 s11 hD9 hC9 ho hR hE s912
        -- a letter that is no value
        refine ⟨_, rfl, _, rfl, fun D hDn => lc_it (walk_strS (z := Str.ofString "abcdefghijz")) (fun j H13 => H13 D = some (.lst (((abc.take j).filter (fun x => decide (x ∉ TL.tl z))).map fun x => V.str (sg x))) ∧ Same H12 H13)
          ⟨upd_same, same_new hDn⟩ (fun _ _ _ _ => trivial) ?_ ?_⟩
        · rintro l x H13' H13 hl ⟨hD13, s13⟩ ⟨rfl, cc, hcc, rfl⟩
          obtain ⟨hlt, he⟩ := List.getElem?_eq_some_iff.mp hcc
          have et : abc.take (l + 1) = abc.take l ++ [cc] := by rw [← he]; exact take_more hlt
          refine ⟨rfl, _, rfl, _, rfl, cc, z, rfl, rfl, _, rfl, ite2 (fun c2 => ?_) (fun c2 => ?_)⟩
          · refine ⟨_, rfl, _, hD13, ?_, ?_, s13.put hDn⟩
            · rw [List.length_map]
              refine Nat.lt_of_le_of_lt (List.length_filter_le _ _) (Nat.lt_of_le_of_lt (List.length_take_le' _ _) ?_)
              exact small1000 (by decide +kernel)
            · rw [upd_same, et, List.filter_append, List.map_append]
              have : decide (cc ∉ TL.tl z) = true := by simpa using c2
              rw [List.filter_cons_of_pos (by simpa using this)]
              rfl
          · refine ⟨?_, s13⟩
            rw [hD13, et, List.filter_append]
            have : ¬ decide (cc ∉ TL.tl z) = true := by simpa using c2
            rw [List.filter_cons_of_neg (by simpa using this), List.filter_nil, List.append_nil]
        · rintro H13 ⟨hD13, s13⟩
          rw [show (Str.ofString "abcdefghijz").length = abc.length from rfl, List.take_length] at hD13
          have hpos : 0 < ((abc.filter (fun x => decide (x ∉ TL.tl z))).map fun x => V.str (sg x)).length := by
            rw [List.length_map]
            exact abc_more (by rw [← TL.len_tl]; omega)
          refine ⟨p, c, D, _, _, rfl, hp12.same s13, by omega, SqL.of hD13, hpos, ?_, fun jj v H14 hv hp14 k14 => ?_⟩
          · rw [List.length_map]
            exact Nat.le_trans (List.length_filter_le _ _) (by decide +kernel)
          have hv' : ∃ cc, v = .str (sg cc) ∧ cc ∉ TL.tl z := by
            obtain ⟨cc, hcc, e⟩ := List.mem_map.mp (List.mem_of_getElem? hv)
            exact ⟨cc, e.symm, by simpa using (List.mem_filter.mp hcc).2⟩
          obtain ⟨cc, rfl, hcz⟩ := hv'
          have k1214 : Kp p H12 H14 := (Kp.of s13).trans k14
          obtain ⟨kv12, hd12⟩ := hp12.dk
          have hD14 := hD12.mv (Kl.kp k1214 hd12)
          have hC14 := hC12.kp k1214 hd12
          clear hv hD12 hC12 hD13 s13 k14 k1214
          -- the place, and what comes behind
          refine ⟨_, rfl, _, rfl, _, _, rfl, ⟨hys, rfl⟩, _, _, rfl, rfl, p, c, _, _, rfl, hp14, by omega, by omega, by omega, fun g H15 g0 g1 hp15 k15 => ?_⟩
          refine ⟨_, rfl, _, rfl, _, rfl, (by show 3 ≤ sizeLine; decide), fun q2 hq2 => ⟨p, c, q2, _, _, rfl, hp15.same (same_new hq2), by omega, SqL.of upd_same, (by show 0 < 3; decide), (by show 3 ≤ 1000; decide), fun jj v H16 hv hp16 k16 => ⟨_, _, rfl, ?_⟩⟩⟩
          have hv' : ∃ m3 : Str, v = .str m3 ∧ m3.length ≤ 26 := by
            have hm := List.mem_of_getElem? hv
            simp only [List.mem_cons, List.not_mem_nil, or_false] at hm
            rcases hm with e | e | e
            · exact ⟨_, e, by decide⟩
            · exact ⟨_, e, by show 1 ≤ 26; decide⟩
            · exact ⟨_, e, by omega⟩
          obtain ⟨m3, rfl, hm3⟩ := hv'
          have k1416 : Kp p H14 H16 := k15.trans ((Kp.of (same_new hq2)).trans k16)
          obtain ⟨kv14, hd14⟩ := hp14.dk
          have hD16 := hD14.mv (Kl.kp k1416 hd14)
          have hC16 := hC14.kp k1416 hd14
          clear hv hD14 hC14 k15 k16 k1416
          obtain ⟨gn, rfl⟩ : ∃ gn : Nat, g = gn := ⟨g.toNat, by omega⟩
          have hgn : gn ≤ y.length := by omega
          have t1 := cut_to hgn
          have t2 := cut_from hgn
          have l1 : (cutS y none (some (gn : Int))).length = gn := by rw [TL.len_tl, t1, List.length_take, ← TL.len_tl]; omega
          have l2 : (cutS y (some (gn : Int)) none).length = y.length - gn := by rw [TL.len_tl, t2, List.length_drop, ← TL.len_tl]
          refine ⟨_, rfl, _, rfl, _, rfl, y, rfl, hys, _, rfl, _, _, rfl, rfl, ?_, ?_⟩
          · rw [l1]; show gn + 1 ≤ sizeLine; exact Nat.le_of_lt (small1000 (by omega))
          have l3 : (cutS y none (some (gn : Int)) ++ sg cc).length = gn + 1 := by rw [Str.length_append, l1]; rfl
          refine ⟨_, rfl, _, rfl, _, rfl, y, rfl, hys, _, _, rfl, rfl, ?_, ?_⟩
          · rw [l3, l2]; exact Nat.le_of_lt (small1000 (by omega))
          have l4 : (cutS y none (some (gn : Int)) ++ sg cc ++ cutS y (some (gn : Int)) none).length = y.length + 1 := by rw [Str.length_append, l3, l2]; omega
          refine ⟨_, rfl, _, _, rfl, rfl, ?_, ?_⟩
          · rw [l4]; exact Nat.le_of_lt (small1000 (by omega))
          have hst : strange z (cutS y none (some (gn : Int)) ++ sg cc ++ cutS y (some (gn : Int)) none ++ m3) = some gn := by
            refine strange_at (a := (TL.tl y).take gn) (r := (TL.tl y).drop gn ++ TL.tl m3) ?_ ?_ (fun x hx => hy2 x (List.mem_of_mem_take hx)) hcz
            · rw [TL.tl_append, TL.tl_append, TL.tl_append, t1, t2, sg_tl]; simp
            · rw [List.length_take, ← TL.len_tl]; omega
          -- the error
          refine ⟨_, rfl, _, rfl, o, z, _, rs, es, rfl, hC16, hg.s, hg.len, hg.pos, by omega, fun hs' _ _ => absurd (hst.symm.trans hs') (fun q => by cases q), fun i' hs' t' H17 s17 ht' => ?_⟩
          obtain rfl : i' = gn := by rw [hst] at hs'; exact (Option.some.inj hs').symm
          refine ⟨_, rfl, (by show 2 ≤ sizeLine; decide), fun q3 hq3 => ?_⟩
          refine ⟨.tuple [.str "value", .int i'], .tuple [.str "value", .int i'], .tup (SqT.of (same_new hq3 _ _ ht')) (.cons (.str _) (.cons (.int _) .nil)), .tup (SqT.of upd_same) (.cons (.str _) (.cons (.int _) .nil)), shaped_val _, shaped_val _, _, rfl, ite2 (fun c1 => absurd c1 (by simp [PyData.eqv, PyData.eqvAll])) (fun _ => ?_)⟩
          have s1618 : Same H16 (L2.upd H17 q3 (.tup [.str "value", .int i'])) := s17.trans (same_new hq3)
          exact ⟨_, _, _, _, _, _, _, rfl, hD16.mv (Kl.same s1618), hC16.same s1618, (hp16.same s1618).mono (by omega)⟩
      · rintro σ H7 ⟨v6, v7, v8, v9, v10, v11, v12, rfl, hD7, hC7, hp7⟩
        obtain ⟨dx, R, Ev, ho, hR, hE⟩ := id hC7
        have hs : strange z (Str.ofString "") = none := rfl
        refine ⟨_, rfl, o, dx, _, rfl, ho, cf_no _ _ _ (by decide +kernel) (by decide +kernel) (by decide +kernel), o, z, Str.ofString "", rs, es, rfl, hC7, hg.s, hg.len, hg.pos, by omega, fun _ H8 s8 => ?_, fun i' hs' => by rw [hs] at hs'; cases hs'⟩
        obtain ⟨ta, xs, rfl, ha, hx⟩ := (hD7.mv (Kl.same s8)).tupE
        cases hx with
        | cons h1 hx =>
          cases hx with
          | cons h2 hx =>
            cases hx with
            | cons h3 hx =>
              cases hx
              obtain ⟨ea, ys, rfl, hE1, hE2⟩ := h3.listE
              obtain rfl := dpAll_intsE hE2
              have hpos : 0 < es.length := by rw [hg.len]; exact hg.pos
              refine ⟨_, rfl, ta, _, 2, _, rfl, rfl, ha, atI_nat (j := 2) rfl, ea, _, 0, _, rfl, rfl, hE1, atI_nat (j := 0) (by rw [List.getElem?_map, List.getElem?_eq_getElem hpos]; rfl), rfl, _, rfl, ?_⟩
              have el : lenR rs es (TL.tl z) (TL.tl (Str.ofString "")) = es[0] := by
                show 0 + es.getD 0 0 = es[0]
                rw [List.getD_eq_getElem?_getD, List.getElem?_eq_getElem hpos]
                exact Int.zero_add _
              rw [el]
              refine ite2 (fun c1 => absurd c1 (by simp)) (fun _ => ?_)
              exact ⟨_, _, _, _, _, _, _, _, _, _, _, rfl, (hp7.same s8).mono (by omega)⟩
    · rintro σ H2 ⟨v2, v3, v4, v5, v6, v7, v8, v9, v10, v11, v12, rfl, hp2⟩
      exact k _
end
end Vf
set_option Elab.async false
set_option linter.all false
set_option maxRecDepth 100000
set_option maxHeartbeats 4000000
namespace Vf
open PySem L2 PyProof.Rows
theorem all_mk {l : PySem.W.OpenLaw} {w : World} {K : PySem.W.Frag} {h : Heap} {mg : Str → Option Value} {fa fD fP fB fPen fLe fCo fMa fWa fLL fCol fTo fCS fSP fLaw fI fCL fR fLen fV C CV B : Addr} {nm q : Str} {N : Addr} {bs : List Value} {sn : List Str} {sub : List Value} {ab : Bool} {col : Option Bool} {dd : Option Addr} {m0 m1 m2 m3 m5 : Option Value} (X : K.In h) (G : h.Ns mainGlobals mg) (hfa : mg "law" = some (.ref fa))
    {odD anD : Option Addr} {slD : Array (Option Value)} {ocD kVD dcD pmD cdD ctD : Value} {odP anP : Option Addr} {slP : Array (Option Value)} {ocP kVP dcP pmP cdP ctP : Value} {odB anB : Option Addr} {slB : Array (Option Value)} {ocB kVB dcB pmB cdB ctB : Value} {odPen anPen : Option Addr} {slPen : Array (Option Value)} {ocPen kVPen dcPen pmPen cdPen ctPen : Value} {odLe anLe : Option Addr} {slLe : Array (Option Value)} {ocLe kVLe dcLe pmLe cdLe ctLe : Value} {odCo anCo : Option Addr} {slCo : Array (Option Value)} {ocCo kVCo dcCo pmCo cdCo ctCo : Value} {odMa anMa : Option Addr} {slMa : Array (Option Value)} {ocMa kVMa dcMa pmMa cdMa ctMa : Value} {odWa anWa : Option Addr} {slWa : Array (Option Value)} {ocWa kVWa dcWa pmWa cdWa ctWa : Value} {odLL anLL : Option Addr} {slLL : Array (Option Value)} {ocLL kVLL dcLL pmLL cdLL ctLL : Value} {odCol anCol : Option Addr} {slCol : Array (Option Value)} {ocCol kVCol dcCol pmCol cdCol ctCol : Value} {odTo anTo : Option Addr} {slTo : Array (Option Value)} {ocTo kVTo dcTo pmTo cdTo ctTo : Value} {odCS anCS : Option Addr} {slCS : Array (Option Value)} {ocCS kVCS dcCS pmCS cdCS ctCS : Value} {odSP anSP : Option Addr} {slSP : Array (Option Value)} {ocSP kVSP dcSP pmSP cdSP ctSP : Value} {odLaw anLaw : Option Addr} {slLaw : Array (Option Value)} {ocLaw kVLaw dcLaw pmLaw cdLaw ctLaw : Value} {odI anI : Option Addr} {slI : Array (Option Value)} {ocI kVI dcI pmI cdI ctI : Value} {odCL anCL : Option Addr} {slCL : Array (Option Value)} {ocCL kVCL dcCL pmCL cdCL ctCL : Value} {odR anR : Option Addr} {slR : Array (Option Value)} {ocR kVR dcR pmR cdR ctR : Value} {odLen anLen : Option Addr} {slLen : Array (Option Value)} {ocLen kVLen dcLen pmLen cdLen ctLen : Value} {odV anV : Option Addr} {slV : Array (Option Value)} {ocV kVV dcV pmV cdV ctV : Value}
    (aD : PySem.W.nsIn K mainGlobals "_law_draw" = some (some (.ref fD)))
    (lD : K.lookup fD = some ⟨ocD, odD, .func (PySem.W.fnOf "_law_draw" "_law_draw" (defArgs s__law_draw) (defBody s__law_draw) (defScope s__law_draw) .none kVD dcD pmD anD cdD ctD), slD⟩) (cD : PySem.W.codeIn K cdD "_law_draw" = true) (kD : PySem.W.keepIn K (.ref fD) = true)
    (aP : PySem.W.nsIn K mainGlobals "_law_pick" = some (some (.ref fP)))
    (lP : K.lookup fP = some ⟨ocP, odP, .func (PySem.W.fnOf "_law_pick" "_law_pick" (defArgs s__law_pick) (defBody s__law_pick) (defScope s__law_pick) .none kVP dcP pmP anP cdP ctP), slP⟩) (cP : PySem.W.codeIn K cdP "_law_pick" = true) (kP : PySem.W.keepIn K (.ref fP) = true)
    (aB : PySem.W.nsIn K mainGlobals "_law_bits" = some (some (.ref fB)))
    (lB : K.lookup fB = some ⟨ocB, odB, .func (PySem.W.fnOf "_law_bits" "_law_bits" (defArgs s__law_bits) (defBody s__law_bits) (defScope s__law_bits) .none kVB dcB pmB anB cdB ctB), slB⟩) (cB : PySem.W.codeIn K cdB "_law_bits" = true) (kB : PySem.W.keepIn K (.ref fB) = true)
    (aPen : PySem.W.nsIn K mainGlobals "_law_pen" = some (some (.ref fPen)))
    (lPen : K.lookup fPen = some ⟨ocPen, odPen, .func (PySem.W.fnOf "_law_pen" "_law_pen" (defArgs s__law_pen) (defBody s__law_pen) (defScope s__law_pen) .none kVPen dcPen pmPen anPen cdPen ctPen), slPen⟩) (cPen : PySem.W.codeIn K cdPen "_law_pen" = true) (kPen : PySem.W.keepIn K (.ref fPen) = true)
    (aLe : PySem.W.nsIn K mainGlobals "_law_letters" = some (some (.ref fLe)))
    (lLe : K.lookup fLe = some ⟨ocLe, odLe, .func (PySem.W.fnOf "_law_letters" "_law_letters" (defArgs s__law_letters) (defBody s__law_letters) (defScope s__law_letters) .none kVLe dcLe pmLe anLe cdLe ctLe), slLe⟩) (cLe : PySem.W.codeIn K cdLe "_law_letters" = true) (kLe : PySem.W.keepIn K (.ref fLe) = true)
    (aCo : PySem.W.nsIn K mainGlobals "_law_code" = some (some (.ref fCo)))
    (lCo : K.lookup fCo = some ⟨ocCo, odCo, .func (PySem.W.fnOf "_law_code" "_law_code" (defArgs s__law_code) (defBody s__law_code) (defScope s__law_code) .none kVCo dcCo pmCo anCo cdCo ctCo), slCo⟩) (cCo : PySem.W.codeIn K cdCo "_law_code" = true) (kCo : PySem.W.keepIn K (.ref fCo) = true)
    (aMa : PySem.W.nsIn K mainGlobals "_law_made_code" = some (some (.ref fMa)))
    (lMa : K.lookup fMa = some ⟨ocMa, odMa, .func (PySem.W.fnOf "_law_made_code" "_law_made_code" (defArgs s__law_made_code) (defBody s__law_made_code) (defScope s__law_made_code) .none kVMa dcMa pmMa anMa cdMa ctMa), slMa⟩) (cMa : PySem.W.codeIn K cdMa "_law_made_code" = true) (kMa : PySem.W.keepIn K (.ref fMa) = true)
    (aWa : PySem.W.nsIn K mainGlobals "_law_walk" = some (some (.ref fWa)))
    (lWa : K.lookup fWa = some ⟨ocWa, odWa, .func (PySem.W.fnOf "_law_walk" "_law_walk" (defArgs s__law_walk) (defBody s__law_walk) (defScope s__law_walk) .none kVWa dcWa pmWa anWa cdWa ctWa), slWa⟩) (cWa : PySem.W.codeIn K cdWa "_law_walk" = true) (kWa : PySem.W.keepIn K (.ref fWa) = true)
    (aLL : PySem.W.nsIn K mainGlobals "_law_length" = some (some (.ref fLL)))
    (lLL : K.lookup fLL = some ⟨ocLL, odLL, .func (PySem.W.fnOf "_law_length" "_law_length" (defArgs s__law_length) (defBody s__law_length) (defScope s__law_length) .none kVLL dcLL pmLL anLL cdLL ctLL), slLL⟩) (cLL : PySem.W.codeIn K cdLL "_law_length" = true) (kLL : PySem.W.keepIn K (.ref fLL) = true)
    (aCol : PySem.W.nsIn K mainGlobals "_law_column" = some (some (.ref fCol)))
    (lCol : K.lookup fCol = some ⟨ocCol, odCol, .func (PySem.W.fnOf "_law_column" "_law_column" (defArgs s__law_column) (defBody s__law_column) (defScope s__law_column) .none kVCol dcCol pmCol anCol cdCol ctCol), slCol⟩) (cCol : PySem.W.codeIn K cdCol "_law_column" = true) (kCol : PySem.W.keepIn K (.ref fCol) = true)
    (aTo : PySem.W.nsIn K mainGlobals "_law_told" = some (some (.ref fTo)))
    (lTo : K.lookup fTo = some ⟨ocTo, odTo, .func (PySem.W.fnOf "_law_told" "_law_told" (defArgs s__law_told) (defBody s__law_told) (defScope s__law_told) .none kVTo dcTo pmTo anTo cdTo ctTo), slTo⟩) (cTo : PySem.W.codeIn K cdTo "_law_told" = true) (kTo : PySem.W.keepIn K (.ref fTo) = true)
    (aCS : PySem.W.nsIn K mainGlobals "check_states" = some (some (.ref fCS)))
    (lCS : K.lookup fCS = some ⟨ocCS, odCS, .func (PySem.W.fnOf "check_states" "check_states" (defArgs s_check_states) (defBody s_check_states) (defScope s_check_states) .none kVCS dcCS pmCS anCS cdCS ctCS), slCS⟩) (cCS : PySem.W.codeIn K cdCS "check_states" = true) (kCS : PySem.W.keepIn K (.ref fCS) = true)
    (aSP : PySem.W.nsIn K mainGlobals "strange_place" = some (some (.ref fSP)))
    (lSP : K.lookup fSP = some ⟨ocSP, odSP, .func (PySem.W.fnOf "strange_place" "strange_place" (defArgs s_strange_place) (defBody s_strange_place) (defScope s_strange_place) .none kVSP dcSP pmSP anSP cdSP ctSP), slSP⟩) (cSP : PySem.W.codeIn K cdSP "strange_place" = true) (kSP : PySem.W.keepIn K (.ref fSP) = true)
    (aLaw : PySem.W.nsIn K mainGlobals "law" = some (some (.ref fLaw)))
    (lLaw : K.lookup fLaw = some ⟨ocLaw, odLaw, .func (PySem.W.fnOf "law" "law" (defArgs s_law) (defBody s_law) (defScope s_law) .none kVLaw dcLaw pmLaw anLaw cdLaw ctLaw), slLaw⟩) (cLaw : PySem.W.codeIn K cdLaw "law" = true) (kLaw : PySem.W.keepIn K (.ref fLaw) = true)
    (aI : PySem.W.findIn K (.ref C) "__init__" = some (some (.ref fI))) (iI : PySem.W.isFn K (.ref fI) = true)
    (lI : K.lookup fI = some ⟨ocI, odI, .func (PySem.W.fnOf "__init__" "Code.__init__" (defArgs s_Code___init__) (defBody s_Code___init__) (defScope s_Code___init__) .none kVI dcI pmI anI cdI ctI), slI⟩) (cI : PySem.W.codeIn K cdI "Code.__init__" = true) (kI : PySem.W.keepIn K (.ref fI) = true)
    (aCL : PySem.W.findIn K (.ref C) "check_letters" = some (some (.ref fCL))) (iCL : PySem.W.isFn K (.ref fCL) = true)
    (lCL : K.lookup fCL = some ⟨ocCL, odCL, .func (PySem.W.fnOf "check_letters" "Code.check_letters" (defArgs s_Code_check_letters) (defBody s_Code_check_letters) (defScope s_Code_check_letters) .none kVCL dcCL pmCL anCL cdCL ctCL), slCL⟩) (cCL : PySem.W.codeIn K cdCL "Code.check_letters" = true) (kCL : PySem.W.keepIn K (.ref fCL) = true)
    (aR : PySem.W.findIn K (.ref C) "run" = some (some (.ref fR))) (iR : PySem.W.isFn K (.ref fR) = true)
    (lR : K.lookup fR = some ⟨ocR, odR, .func (PySem.W.fnOf "run" "Code.run" (defArgs s_Code_run) (defBody s_Code_run) (defScope s_Code_run) .none kVR dcR pmR anR cdR ctR), slR⟩) (cR : PySem.W.codeIn K cdR "Code.run" = true) (kR : PySem.W.keepIn K (.ref fR) = true)
    (aLen : PySem.W.findIn K (.ref C) "length" = some (some (.ref fLen))) (iLen : PySem.W.isFn K (.ref fLen) = true)
    (lLen : K.lookup fLen = some ⟨ocLen, odLen, .func (PySem.W.fnOf "length" "Code.length" (defArgs s_Code_length) (defBody s_Code_length) (defScope s_Code_length) .none kVLen dcLen pmLen anLen cdLen ctLen), slLen⟩) (cLen : PySem.W.codeIn K cdLen "Code.length" = true) (kLen : PySem.W.keepIn K (.ref fLen) = true)
    (aV : PySem.W.findIn K (.ref CV) "__init__" = some (some (.ref fV))) (iV : PySem.W.isFn K (.ref fV) = true)
    (lV : K.lookup fV = some ⟨ocV, odV, .func (PySem.W.fnOf "__init__" "BadValue.__init__" (defArgs s_BadValue___init__) (defBody s_BadValue___init__) (defScope s_BadValue___init__) .none kVV dcV pmV anV cdV ctV), slV⟩) (cV : PySem.W.codeIn K cdV "BadValue.__init__" = true) (kV : PySem.W.keepIn K (.ref fV) = true)
    (z_int : PySem.W.nsIn K mainGlobals "int" = some none)
    (z_len : PySem.W.nsIn K mainGlobals "len" = some none)
    (z_list : PySem.W.nsIn K mainGlobals "list" = some none)
    (z_range : PySem.W.nsIn K mainGlobals "range" = some none)
    (z_sorted : PySem.W.nsIn K mainGlobals "sorted" = some none)
    (z_any : PySem.W.nsIn K mainGlobals "any" = some none)
    (z_tuple : PySem.W.nsIn K mainGlobals "tuple" = some none)
    (z_enumerate : PySem.W.nsIn K mainGlobals "enumerate" = some none)
    (z_min : PySem.W.nsIn K mainGlobals "min" = some none)
    (z_isinstance : PySem.W.nsIn K mainGlobals "isinstance" = some none)
    (z_bool : PySem.W.nsIn K mainGlobals "bool" = some none)
    (cC : PySem.W.nsIn K mainGlobals "Code" = some (some (.ref C))) (cpg : PySem.W.plainGet K C Str.empty = true) (chd : PySem.W.hasDictIn K C = true) (cpo : PySem.W.plainOver K C = true) (csa : PySem.W.findIn K (.ref C) "__setattr__" = some (some (.builtin "object.__setattr__"))) (cmk : PySem.W.makesIn K C = true) (ckc : PySem.W.keepIn K (.ref C) = true)
    (cnL : PySem.W.findIn K (.ref C) "letters" = some none) (cnR : PySem.W.findIn K (.ref C) "rows" = some none) (cnE : PySem.W.findIn K (.ref C) "ends" = some none)
    (vC : PySem.W.nsIn K mainGlobals "BadValue" = some (some (.ref CV))) (vL : K.lookup CV = some (excClassObj nm q CV N bs [.ref B, .type "ValueError", .type "Exception", .type "BaseException", .type "object"] true sn sub ab col dd m0 m1 m2 m3 m5 "ValueError.__new__"))
    (vsa : PySem.W.findIn K (.ref CV) "__setattr__" = some (some (.builtin "object.__setattr__"))) (vex : PySem.W.subIn K (.ref CV) (.type "BaseException") = some true) (vty : PySem.W.typeIn K (.ref CV) = some (.type "type")) (vkc : PySem.W.keepIn K (.ref CV) = true)
    (vtI : PySem.W.typeIn K (.ref fV) = some (.type "function")) (vnf : PySem.W.findIn K (.ref CV) "place" = some none)
    (vga : PySem.W.findIn K (.ref CV) "__getattribute__" = some (some (.builtin "BaseException.__getattribute__"))) (vgg : PySem.W.findIn K (.ref CV) "__getattr__" = some none) (vhd : PySem.W.hasDictIn K CV = true) (vss : PySem.W.subIn K (.ref CV) (.ref CV) = some true)
    (bC : PySem.W.nsIn K mainGlobals "CodeError" = some (some (.ref B))) (bs0 : PySem.W.specialIn K (.ref B) "__getattribute__" = some (some (.builtin "type.__getattribute__"))) (br : PySem.W.readsIn K B (.type "type") = true)
    (bv : PySem.W.findCls K (.ref B) (.type "type") "__init__" = some (.val (.builtin "ValueError.__init__"))) :
    ∃ fd : FuncData, (∀ (s : Shared) (v : Value), BindsTo s fd ⟨[v], []⟩ [("_law_script", v)]) ∧ ∀ base : Heap, K.In base → base.Ns mainGlobals mg → FnOk l.prog w K mg base CX0 6 fa fd ["_law_script"] (spLaw K) := by
  have e := hfa.symm.trans (PySem.W.mg_of X G aLaw)
  cases e
  have T : TxtW K mg fD fP fB C fCS fSP B CV fV fCL fR fPen fLe fCo fMa fWa fLL fCol fTo fLen :=
    { int := PySem.W.mg_none_of X G z_int, len := PySem.W.mg_none_of X G z_len, list := PySem.W.mg_none_of X G z_list, range := PySem.W.mg_none_of X G z_range, sorted := PySem.W.mg_none_of X G z_sorted,
      any := PySem.W.mg_none_of X G z_any, tuple := PySem.W.mg_none_of X G z_tuple, enumerate := PySem.W.mg_none_of X G z_enumerate, min := PySem.W.mg_none_of X G z_min, isinstance := PySem.W.mg_none_of X G z_isinstance, bool := PySem.W.mg_none_of X G z_bool,
      m_law_draw := PySem.W.mg_of X G aD, k_law_draw := kD, m_law_pick := PySem.W.mg_of X G aP, k_law_pick := kP, m_law_bits := PySem.W.mg_of X G aB, k_law_bits := kB,
      cl := ⟨cpg, chd, cpo, csa⟩, nL := cnL, nR := cnR, nE := cnE, mgCode := PySem.W.mg_of X G cC, mcheck_states := PySem.W.mg_of X G aCS, kcheck_states := kCS,
      mstrange_place := PySem.W.mg_of X G aSP, kstrange_place := kSP,
      base := ⟨PySem.W.mg_of X G bC, bs0, br, bv⟩,
      bv := ⟨⟨⟨nm, q, N, bs, _, sn, sub, ab, col, dd, m0, m1, m2, m3, m5, vL, by rfl⟩, vsa, vex, vty, vkc⟩, PySem.W.mg_of X G vC, aV, vtI, vnf, ⟨vga, vgg, vex, vhd⟩⟩,
      mtCL := ⟨aCL, iCL, kCL⟩, mtRun := ⟨aR, iR, kR⟩,
      m_law_pen := PySem.W.mg_of X G aPen, k_law_pen := kPen, m_law_letters := PySem.W.mg_of X G aLe, k_law_letters := kLe, m_law_code := PySem.W.mg_of X G aCo, k_law_code := kCo, m_law_made_code := PySem.W.mg_of X G aMa, k_law_made_code := kMa,
      m_law_walk := PySem.W.mg_of X G aWa, k_law_walk := kWa, m_law_length := PySem.W.mg_of X G aLL, k_law_length := kLL, m_law_column := PySem.W.mg_of X G aCol, k_law_column := kCol, m_law_told := PySem.W.mg_of X G aTo, k_law_told := kTo,
      mtLen := ⟨aLen, iLen, kLen⟩, te := PySem.W.exm_ref vex vhd vty vss }
  have FD := fun_mk (st := s__law_draw) lD cD kD
  have bD := FD.binds (ps := P__law_draw) fun _ _ _ _ _ _ us hl => match us, hl with | [_, _], _ => rfl
  have FP := fun_mk (st := s__law_pick) lP cP kP
  have bP := FP.binds (ps := P__law_pick) fun _ _ _ _ _ _ us hl => match us, hl with | [_, _], _ => rfl
  have FB := fun_mk (st := s__law_bits) lB cB kB
  have bB := FB.binds (ps := P__law_bits) fun _ _ _ _ _ _ us hl => match us, hl with | [_], _ => rfl
  have FPen := fun_mk (st := s__law_pen) lPen cPen kPen
  have bPen := FPen.binds (ps := P__law_pen) fun _ _ _ _ _ _ us hl => match us, hl with | [_], _ => rfl
  have FLe := fun_mk (st := s__law_letters) lLe cLe kLe
  have bLe := FLe.binds (ps := P__law_letters) fun _ _ _ _ _ _ us hl => match us, hl with | [_, _], _ => rfl
  have FCo := fun_mk (st := s__law_code) lCo cCo kCo
  have bCo := FCo.binds (ps := P__law_code) fun _ _ _ _ _ _ us hl => match us, hl with | [_, _, _], _ => rfl
  have FMa := fun_mk (st := s__law_made_code) lMa cMa kMa
  have bMa := FMa.binds (ps := P__law_made_code) fun _ _ _ _ _ _ us hl => match us, hl with | [_], _ => rfl
  have FWa := fun_mk (st := s__law_walk) lWa cWa kWa
  have bWa := FWa.binds (ps := P__law_walk) fun _ _ _ _ _ _ us hl => match us, hl with | [_, _, _], _ => rfl
  have FLL := fun_mk (st := s__law_length) lLL cLL kLL
  have bLL := FLL.binds (ps := P__law_length) fun _ _ _ _ _ _ us hl => match us, hl with | [_, _], _ => rfl
  have FCol := fun_mk (st := s__law_column) lCol cCol kCol
  have bCol := FCol.binds (ps := P__law_column) fun _ _ _ _ _ _ us hl => match us, hl with | [_, _, _], _ => rfl
  have FTo := fun_mk (st := s__law_told) lTo cTo kTo
  have bTo := FTo.binds (ps := P__law_told) fun _ _ _ _ _ _ us hl => match us, hl with | [_, _], _ => rfl
  have FCS := fun_mk (st := s_check_states) lCS cCS kCS
  have bCS := FCS.binds (ps := P_check_states) fun _ _ _ _ _ _ us hl => match us, hl with | [_, _, _], _ => rfl
  have FSP := fun_mk (st := s_strange_place) lSP cSP kSP
  have bSP := FSP.binds (ps := P_strange_place) fun _ _ _ _ _ _ us hl => match us, hl with | [_, _], _ => rfl
  have FLaw := fun_mk (st := s_law) lLaw cLaw kLaw
  have FI := fun_mk (st := s_Code___init__) lI cI kI
  have bI := FI.binds (ps := P_Code___init__) fun _ _ _ _ _ _ us hl => match us, hl with | [_, _, _, _], _ => rfl
  have FCL := fun_mk (st := s_Code_check_letters) lCL cCL kCL
  have bCL := FCL.binds (ps := P_Code_check_letters) fun _ _ _ _ _ _ us hl => match us, hl with | [_, _], _ => rfl
  have FR := fun_mk (st := s_Code_run) lR cR kR
  have bR := FR.binds (ps := P_Code_run) fun _ _ _ _ _ _ us hl => match us, hl with | [_, _, _], _ => rfl
  have FLen := fun_mk (st := s_Code_length) lLen cLen kLen
  have bLen := FLen.binds (ps := P_Code_length) fun _ _ _ _ _ _ us hl => match us, hl with | [_, _], _ => rfl
  have FV := fun_mk (st := s_BadValue___init__) lV cV kV
  have bV := FV.binds (ps := P_BadValue___init__) fun _ _ _ _ _ _ us hl => match us, hl with | [_, _], _ => rfl
  exact ⟨PySem.W.fnOf "law" "law" (defArgs s_law) (defBody s_law) (defScope s_law) .none kVLaw dcLaw pmLaw anLaw cdLaw ctLaw, fun s v => .of_eq rfl, fun base _ _ => ok_law FLaw T FD bD FP bP FB bB FI bI ⟨cmk, aI, iI, ckc⟩ FCS bCS FSP bSP FV bV FCL bCL FR bR FPen bPen FLe bLe FCo bCo FMa bMa FWa bWa FLL bLL FCol bCol FTo bTo FLen bLen⟩
theorem walk {l : PySem.W.OpenLaw} {q : Program} {loose : List Str} {XP : (Str → Option Value) → Heap → Prop} {YP : World → Heap → Prop} {d : DefRec} {K : Params → PySem.W.Frag} (hn : l.most = some 63) (hdf : d.params.defaults = [])
    (hY : ∀ (w : World) (h : Heap), YP w h → (K w.params).In h)
    (F : ∀ (w : World) (mg : Str → Option Value) (fa : Addr) (h : Heap), (K w.params).In h → h.Ns mainGlobals mg → mg d.name = some (.ref fa) →
      ∃ fd : FuncData, (∀ (s : Shared) (u : Value), BindsTo s fd ⟨[u], []⟩ [("_law_script", u)]) ∧ ∀ base : Heap, (K w.params).In base → base.Ns mainGlobals mg → FnOk l.prog w (K w.params) mg base CX0 6 fa fd ["_law_script"] (spLaw (K w.params))) :
    PySem.W.WalkO q loose XP YP l.row.toRowW d [] (fun f vs => PySem.call f vs) :=
  L2.walk_of (n := 63) (k := 6) (x := "_law_script") (CX := fun _ => CX0) (sp := fun w => spLaw (K w.params)) hn (by decide) hdf ⟨rfl, by decide, by decide⟩ hY F (fun _ _ a ns hl _ hS => ⟨a, ns, rfl, hS, hl, fun _ => rfl⟩) fun _ _ _ _ _ z => z
end Vf
open PySem PySem.W PyProof.Rows
set_option maxRecDepth 100000 in
set_option maxHeartbeats 0 in
theorem PySem.Challenge.cw_bestcodes_k03_lengths_holds : PySem.Challenge.rw_bestcodes_k03_lengths.Holds := by
  w_on; o_law; k_head; (case hw => w_witness2)
  k_fill
  refine Vf.walk (l := PySem.Challenge.rw_bestcodes_k03_lengths) rfl rfl (fun w h Y => PySem.W.kIn_of Y) ?F
  case F =>
    intro w mg fa h KX G hmg
    refine' Vf.all_mk KX G hmg ?aD ?lD ?cD ?kD ?aP ?lP ?cP ?kP ?aB ?lB ?cB ?kB ?aPen ?lPen ?cPen ?kPen ?aLe ?lLe ?cLe ?kLe ?aCo ?lCo ?cCo ?kCo ?aMa ?lMa ?cMa ?kMa ?aWa ?lWa ?cWa ?kWa ?aLL ?lLL ?cLL ?kLL ?aCol ?lCol ?cCol ?kCol ?aTo ?lTo ?cTo ?kTo ?aCS ?lCS ?cCS ?kCS ?aSP ?lSP ?cSP ?kSP ?aLaw ?lLaw ?cLaw ?kLaw ?aI ?iI ?lI ?cI ?kI ?aCL ?iCL ?lCL ?cCL ?kCL ?aR ?iR ?lR ?cR ?kR ?aLen ?iLen ?lLen ?cLen ?kLen ?aV ?iV ?lV ?cV ?kV ?z_int ?z_len ?z_list ?z_range ?z_sorted ?z_any ?z_tuple ?z_enumerate ?z_min ?z_isinstance ?z_bool ?cC ?cpg ?chd ?cpo ?csa ?cmk ?ckc ?cnL ?cnR ?cnE ?vC ?vL ?vsa ?vex ?vty ?vkc ?vtI ?vnf ?vga ?vgg ?vhd ?vss ?bC ?bs0 ?br ?bv
    (case cC => k_is)
    (case vC => k_is)
    (case bC => k_is)
    (case aD => k_is)
    (case lD => k_is)
    (case cD => k_is)
    (case kD => k_is)
    (case aP => k_is)
    (case lP => k_is)
    (case cP => k_is)
    (case kP => k_is)
    (case aB => k_is)
    (case lB => k_is)
    (case cB => k_is)
    (case kB => k_is)
    (case aPen => k_is)
    (case lPen => k_is)
    (case cPen => k_is)
    (case kPen => k_is)
    (case aLe => k_is)
    (case lLe => k_is)
    (case cLe => k_is)
    (case kLe => k_is)
    (case aCo => k_is)
    (case lCo => k_is)
    (case cCo => k_is)
    (case kCo => k_is)
    (case aMa => k_is)
    (case lMa => k_is)
    (case cMa => k_is)
    (case kMa => k_is)
    (case aWa => k_is)
    (case lWa => k_is)
    (case cWa => k_is)
    (case kWa => k_is)
    (case aLL => k_is)
    (case lLL => k_is)
    (case cLL => k_is)
    (case kLL => k_is)
    (case aCol => k_is)
    (case lCol => k_is)
    (case cCol => k_is)
    (case kCol => k_is)
    (case aTo => k_is)
    (case lTo => k_is)
    (case cTo => k_is)
    (case kTo => k_is)
    (case aCS => k_is)
    (case lCS => k_is)
    (case cCS => k_is)
    (case kCS => k_is)
    (case aSP => k_is)
    (case lSP => k_is)
    (case cSP => k_is)
    (case kSP => k_is)
    (case aLaw => k_is)
    (case lLaw => k_is)
    (case cLaw => k_is)
    (case kLaw => k_is)
    (case aI => k_is)
    (case iI => k_is)
    (case lI => k_is)
    (case cI => k_is)
    (case kI => k_is)
    (case aCL => k_is)
    (case iCL => k_is)
    (case lCL => k_is)
    (case cCL => k_is)
    (case kCL => k_is)
    (case aR => k_is)
    (case iR => k_is)
    (case lR => k_is)
    (case cR => k_is)
    (case kR => k_is)
    (case aLen => k_is)
    (case iLen => k_is)
    (case lLen => k_is)
    (case cLen => k_is)
    (case kLen => k_is)
    (case aV => k_is)
    (case iV => k_is)
    (case lV => k_is)
    (case cV => k_is)
    (case kV => k_is)
    (case z_int => k_is)
    (case z_len => k_is)
    (case z_list => k_is)
    (case z_range => k_is)
    (case z_sorted => k_is)
    (case z_any => k_is)
    (case z_tuple => k_is)
    (case z_enumerate => k_is)
    (case z_min => k_is)
    (case z_isinstance => k_is)
    (case z_bool => k_is)
    (case cpg => k_is)
    (case chd => k_is)
    (case cpo => k_is)
    (case csa => k_is)
    (case cmk => k_is)
    (case ckc => k_is)
    (case cnL => k_is)
    (case cnR => k_is)
    (case cnE => k_is)
    (case vL => k_is)
    (case vsa => k_is)
    (case vex => k_is)
    (case vty => k_is)
    (case vkc => k_is)
    (case vtI => k_is)
    (case vnf => k_is)
    (case vga => k_is)
    (case vgg => k_is)
    (case vhd => k_is)
    (case vss => k_is)
    (case bs0 => k_is)
    (case br => k_is)
    (case bv => k_is)
#print axioms PySem.Challenge.cw_bestcodes_k03_lengths_holds
