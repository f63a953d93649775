/-
  The parts that the statement needs, 4 of 4.
-/
import Derived.Test.YtndklmcnndilgaaV1063
namespace Go.Ev
open Go.Proofs
open Go.IntWalk
set_option linter.unusedVariables false
set_option linter.unusedSimpArgs false
set_option maxRecDepth 100000
theorem s148 (cn : ByteArray) (aq nq mq : Nat) (tq : Nat → Int) (rp : Int) (fl : Int) (al nl ml : Nat) (tl : Nat → Int) (hp : (aq + nq ≤ mq ∧ nq ≤ 1000000) ∧ (al + nl ≤ ml ∧ nl ≤ 1000000)) : Goes ((q148 cn aq nq mq tq rp fl al nl ml tl)) ((p148 cn aq nq mq tq rp fl al nl ml tl)) (S.behS (S.cyE cn nq (fun j => tq (j + aq)) rp fl) nq (fun j => tq (j + aq)) rp fl nl (fun j => tl (j + al))) := by
  unfold S.behS
  by_cases hy : (S.cyE cn nq (fun j => tq (j + aq)) rp fl) = 0
  · have hc := cy_ok hy
    have hst := stp_in hy
    have hl2 : 2 ≤ (S.stpL nq (fun j => tq (j + aq)) rp fl).length := by
      rw [stp_len]
      have : 1 ≤ nq * rp.toNat := Nat.mul_pos (by omega) (by omega)
      omega
    have hm := s148' cn aq nq mq tq rp fl al nl ml tl hp ⟨hc.1.1, hc.1.2⟩ (S.stpL nq (fun j => tq (j + aq)) rp fl) ⟨hl2, by omega⟩ nl 0 (Nat.zero_add _) (fun j hj => absurd hj (Nat.not_lt_zero j))
    have hm : Comes (q148 cn aq nq mq tq rp fl al nl ml tl) (.h0 0 0 false false 0 (S.stpL nq (fun j => tq (j + aq)) rp fl)) _ := hm
    obtain ⟨⟨hp1, hp2⟩, hp3, hp4⟩ := hp
    rw [if_pos hy]
    by_cases h5 : 500 < nl
    · have he : (S.setE nl (fun j => tl (j + al))) = 3 := if_pos h5
      rw [he, if_neg (by decide)]
      unfold p148
      simp only [hy]
      show Goes _ _ _
      repeat' first
        | with_reducible refine goes_if (fun h => ?_) (fun h => ?_) <;> (try simp only [lim64, imp_false, decide_eq_true_eq, decide_eq_false_iff_not, Int.toNat_natCast, toNat_pred, toNat_succ, Option.getD_some, Option.getD_none, Bool.not_eq_true', Bool.not_eq_false', Bool.and_eq_true, Bool.or_eq_true, Bool.and_eq_false_iff, Bool.or_eq_false_iff, bne_iff_ne, beq_iff_eq, bne_eq_false_iff_eq, beq_eq_false_iff_ne, ne_eq, not_and, Int.not_le, Int.not_lt, ge_iff_le, gt_iff_lt, Nat.not_lt, Nat.not_le, Bool.not_eq_true, Bool.not_eq_false, Bool.true_eq_false, Bool.false_eq_true, not_false_eq_true, not_true_eq_false] at h)
        | exact goes_none.mpr (by omega)
      all_goals first | (exfalso; omega) | exact goes_inr.mpr rfl | (exfalso; simp_all; done)
    · have he : (S.setE nl (fun j => tl (j + al))) = if S.all (fun j => decide (-1099511627776 ≤ tl (j + al) ∧ tl (j + al) ≤ 1099511627776)) nl = true then 0 else 6 := if_neg h5
      have hm : Comes (q148 cn aq nq mq tq rp fl al nl ml tl) (.h0 0 0 false false 0 (S.stpL nq (fun j => tq (j + aq)) rp fl)) (if (S.setE nl (fun j => tl (j + al))) = 0 then (let a := S.behK nq (fun j => tq (j + aq)) fl (S.stpL nq (fun j => tq (j + aq)) rp fl).length (S.at' (S.stpL nq (fun j => tq (j + aq)) rp fl)) (fun j => tl (j + al)) nl; (a.1, a.2.1, a.2.2.1, a.2.2.2, 0)) else (0, false, false, 0, (S.setE nl (fun j => tl (j + al))))) := by
        refine Eq.mpr (congrArg (Comes _ _) ?_) hm
        rw [he]
        cases S.all (fun j => decide (-1099511627776 ≤ tl (j + al) ∧ tl (j + al) ≤ 1099511627776)) nl
        · rfl
        · rfl
      unfold p148
      simp only [hy]
      show Goes _ _ _
      repeat' first
        | with_reducible refine goes_if (fun h => ?_) (fun h => ?_) <;> (try simp only [lim64, imp_false, decide_eq_true_eq, decide_eq_false_iff_not, Int.toNat_natCast, toNat_pred, toNat_succ, Option.getD_some, Option.getD_none, Bool.not_eq_true', Bool.not_eq_false', Bool.and_eq_true, Bool.or_eq_true, Bool.and_eq_false_iff, Bool.or_eq_false_iff, bne_iff_ne, beq_iff_eq, bne_eq_false_iff_eq, beq_eq_false_iff_ne, ne_eq, not_and, Int.not_le, Int.not_lt, ge_iff_le, gt_iff_lt, Nat.not_lt, Nat.not_le, Bool.not_eq_true, Bool.not_eq_false, Bool.true_eq_false, Bool.false_eq_true, not_false_eq_true, not_true_eq_false] at h)
        | exact goes_none.mpr (by omega)
      all_goals first | (exfalso; omega) | exact hm | (exfalso; simp_all; done)
  · obtain ⟨⟨hp1, hp2⟩, hp3, hp4⟩ := hp
    rw [if_neg hy]
    unfold p148
    generalize (S.cyE cn nq (fun j => tq (j + aq)) rp fl) = e at *
    show Goes _ _ _
    repeat' first
      | with_reducible refine goes_if (fun h => ?_) (fun h => ?_) <;> (try simp only [lim64, imp_false, decide_eq_true_eq, decide_eq_false_iff_not, Int.toNat_natCast, toNat_pred, toNat_succ, Option.getD_some, Option.getD_none, Bool.not_eq_true', Bool.not_eq_false', Bool.and_eq_true, Bool.or_eq_true, Bool.and_eq_false_iff, Bool.or_eq_false_iff, bne_iff_ne, beq_iff_eq, bne_eq_false_iff_eq, beq_eq_false_iff_ne, ne_eq, not_and, Int.not_le, Int.not_lt, ge_iff_le, gt_iff_lt, Nat.not_lt, Nat.not_le, Bool.not_eq_true, Bool.not_eq_false, Bool.true_eq_false, Bool.false_eq_true, not_false_eq_true, not_true_eq_false] at h)
      | exact goes_none.mpr (by omega)
    all_goals first | (exfalso; omega) | exact goes_inr.mpr rfl | (exfalso; simp_all; done)
theorem k148_ok : k148.ok Try.prog := by
  intro x hx
  obtain ⟨⟨cn, ⟨aq, nq, mq, tq, _⟩, rp, fl, _⟩, ⟨al, nl, ml, tl, _⟩, _⟩ := x
  obtain ⟨h1, h2⟩ := a148 cn aq nq mq tq rp fl al nl ml tl (s148 cn aq nq mq tq rp fl al nl ml tl (of_dec hx rfl))
  exact ⟨⟨400, (by decide : 2 + 1 + 0 ≤ 400), h1⟩, h2⟩
noncomputable def xFA (test : Bool → Prop → Prop → Prop) : Ext := consX test [k142, k144, k149, k120, k121, k135, k136, k24, k26, k17, k18, k148]
theorem xFA_ok : ExtOk Try.prog (xFA cond) := consX_ok ⟨k142_ok, k144_ok, k149_ok, k120_ok, k121_ok, k135_ok, k136_ok, k24_ok, k26_ok, k17_ok, k18_ok, k148_ok, trivial⟩
namespace S
def faS (e s : Int) (er : Bool) (x : Int) : Int × Int := if e = 0 then (if s = 0 then (if er = true then (x, 0) else (0, 8)) else (0, s)) else (0, e)
def fldH (n : Nat) (u d w : Nat → Int) (o : Nat → Bool) (nl : Nat) (t : Nat → Int) : Int := fldN w (fun j => aftN (u j) (d j) t (o j) nl) n
end S
theorem fldN_congr {w w' : Nat → Int} {o o' : Nat → Bool} : ∀ {n : Nat}, (∀ j, j < n → w j = w' j ∧ o j = o' j) → S.fldN w o n = S.fldN w' o' n
  | 0, _ => rfl
  | n + 1, h => by
    obtain ⟨h1, h2⟩ := h n (by omega)
    simp only [S.fldN]
    rw [h1, h2, fldN_congr fun j hj => h j (by omega)]
theorem hist_in {n no nl : Nat} {u d w t : Nat → Int} {o : Nat → Bool} (h : S.magE n u d w no = 0) (h1 : nl ≤ 1000) (h2 : ∀ j, j < nl → -1099511627776 ≤ t j ∧ t j ≤ 1099511627776) : S.histS n u d w no o nl t = (0, S.mkl n fun j => (u j, d j, w j), S.mkl no fun j => S.aftN (u j) (d j) t (o j) nl) := by
  have hh : S.histE n u d w no nl t = 0 := by
    unfold S.histE
    rw [if_pos h, if_neg (by omega)]
    have : ∀ k i, i + k = nl → S.inE t i k = 0 := by
      intro k
      induction k with
      | zero => intro i _; rfl
      | succ k ih => intro i hi; simp only [S.inE]; rw [if_pos (h2 i (by omega))]; exact ih (i + 1) (by omega)
    exact this nl 0 (Nat.zero_add _)
  unfold S.histS
  rw [if_pos hh]
theorem field_in {n no nl : Nat} {u d w t : Nat → Int} {o : Nat → Bool} (h : S.magE n u d w no = 0) : S.fieldS n (fun j => (S.at' (S.mkl n fun j => (u j, d j, w j)) j).1) (fun j => (S.at' (S.mkl n fun j => (u j, d j, w j)) j).2.1) (fun j => (S.at' (S.mkl n fun j => (u j, d j, w j)) j).2.2) no (fun j => S.at' (S.mkl no fun j => S.aftN (u j) (d j) t (o j) nl) j) = (S.fldH n u d w o nl t, 0) := by
  obtain ⟨v1, v2, v3, v4⟩ := mag_ok h
  unfold S.fieldS
  rw [mag_congr (u' := u) (d' := d) (w' := w) (fun j hj => by rw [at_mkl hj]; exact ⟨rfl, rfl, rfl⟩), if_pos h]
  unfold S.fldH
  rw [fldN_congr (w' := w) (o' := fun j => S.aftN (u j) (d j) t (o j) nl) fun j hj => by rw [at_mkl hj, at_mkl (by omega)]; exact ⟨rfl, rfl⟩]
abbrev St129 := Empty
abbrev Rt129 := Int × Int
noncomputable def V129 (ar nr mr : Nat) (tr : Nat → Int) (vr : Nat → Int) (gr : Nat → Int) (ao no mo : Nat) (to : Nat → Bool) (cn : ByteArray) (aq nq mq : Nat) (tq : Nat → Int) (rp : Int) (fl : Int) (al nl ml : Nat) (tl : Nat → Int) (r : Rt129) : PV := PV.tup [PV.int IntKind.i64 r.1, PV.int IntKind.i64 r.2]
noncomputable def N129 (ar nr mr : Nat) (tr : Nat → Int) (vr : Nat → Int) (gr : Nat → Int) (ao no mo : Nat) (to : Nat → Bool) (cn : ByteArray) (aq nq mq : Nat) (tq : Nat → Int) (rp : Int) (fl : Int) (al nl ml : Nat) (tl : Nat → Int) (r : Rt129) : List Blk := []
noncomputable def I129 (ar nr mr : Nat) (tr : Nat → Int) (vr : Nat → Int) (gr : Nat → Int) (ao no mo : Nat) (to : Nat → Bool) (cn : ByteArray) (aq nq mq : Nat) (tq : Nat → Int) (rp : Int) (fl : Int) (al nl ml : Nat) (tl : Nat → Int) : St129 → Hd := fun s => s.elim
noncomputable def q129 (ar nr mr : Nat) (tr : Nat → Int) (vr : Nat → Int) (gr : Nat → Int) (ao no mo : Nat) (to : Nat → Bool) (cn : ByteArray) (aq nq mq : Nat) (tq : Nat → Int) (rp : Int) (fl : Int) (al nl ml : Nat) (tl : Nat → Int) : St129 → Option (St129 ⊕ Rt129) := fun s => s.elim
noncomputable def p129 (ar nr mr : Nat) (tr : Nat → Int) (vr : Nat → Int) (gr : Nat → Int) (ao no mo : Nat) (to : Nat → Bool) (cn : ByteArray) (aq nq mq : Nat) (tq : Nat → Int) (rp : Int) (fl : Int) (al nl ml : Nat) (tl : Nat → Int) : Option (St129 ⊕ Rt129) := bif (decide ((ar + nr ≤ mr ∧ nr ≤ 1000000) ∧ aq + nq ≤ mq ∧ nq ≤ 1000000))
 then (bif (S.botE
 (S.magE nr (fun j => tr (j + ar)) (fun j => vr (j + ar)) (fun j => gr (j + ar)) no)
 (S.cyE cn nq (fun j => tq (j + aq)) rp fl) !=
 (0 : Int))
 then (some (.inr ((0 : Int), S.botE
 (S.magE nr (fun j => tr (j + ar)) (fun j => vr (j + ar)) (fun j => gr (j + ar)) no)
 (S.cyE cn nq (fun j => tq (j + aq)) rp fl))))
 else (bif (decide (al + nl ≤ ml ∧ nl ≤ 1000000))
 then (bif ((S.setE nl fun j => tl (j + al)) != (0 : Int))
 then (some (.inr ((0 : Int), S.setE nl fun j => tl (j + al))))
 else (bif (decide
 ((ar + nr ≤ mr ∧ nr ≤ 1000000) ∧ (ao + no ≤ mo ∧ no ≤ 1000000) ∧ aq + nq ≤ mq ∧ nq ≤ 1000000))
 then (bif (Prod.fst
 (S.suiS
 (S.botE
 (S.magE nr (fun j => tr (j + ar)) (fun j => vr (j + ar)) (fun j => gr (j + ar)) no)
 (S.cyE cn nq (fun j => tq (j + aq)) rp fl))
 (S.erB (fun j => tr (j + ar)) (fun j => vr (j + ar))
 (List.length (S.stpL nq (fun j => tq (j + aq)) rp fl))
 (fun j => S.at' (S.stpL nq (fun j => tq (j + aq)) rp fl) j) (0) nr)))
 then (bif (Prod.snd
 (S.suiS
 (S.botE
 (S.magE nr (fun j => tr (j + ar)) (fun j => vr (j + ar)) (fun j => gr (j + ar))
 no)
 (S.cyE cn nq (fun j => tq (j + aq)) rp fl))
 (S.erB (fun j => tr (j + ar)) (fun j => vr (j + ar))
 (List.length (S.stpL nq (fun j => tq (j + aq)) rp fl))
 (fun j => S.at' (S.stpL nq (fun j => tq (j + aq)) rp fl) j) (0) nr)) !=
 (0 : Int))
 then (some (.inr ((0 : Int), Prod.snd
 (S.suiS
 (S.botE
 (S.magE nr (fun j => tr (j + ar)) (fun j => vr (j + ar)) (fun j => gr (j + ar)) no)
 (S.cyE cn nq (fun j => tq (j + aq)) rp fl))
 (S.erB (fun j => tr (j + ar)) (fun j => vr (j + ar))
 (List.length (S.stpL nq (fun j => tq (j + aq)) rp fl))
 (fun j => S.at' (S.stpL nq (fun j => tq (j + aq)) rp fl) j) (0) nr)))))
 else (bif (decide (aq + nq ≤ mq ∧ nq ≤ 20 ∧ (0 : Int) ≤ rp ∧ rp ≤ (9 : Int)))
 then (bif (decide (List.length (S.stpL nq (fun j => tq (j + aq)) rp fl) + nl ≤ 1000000))
 then (bif (decide
 (List.length (S.stpL nq (fun j => tq (j + aq)) rp fl) ≤
 List.length (S.stpL nq (fun j => tq (j + aq)) rp fl)))
 then (bif (decide (al + nl ≤ ml))
 then (bif (decide
 (ar + nr ≤ mr ∧
 nr ≤ 1000000 ∧
 ao + no ≤ mo ∧
 no ≤ 1000000 ∧
 0 + (List.length (S.stpL nq (fun j => tq (j + aq)) rp fl) + nl) ≤
 List.length (S.stpL nq (fun j => tq (j + aq)) rp fl) + nl ∧
 List.length (S.stpL nq (fun j => tq (j + aq)) rp fl) + nl ≤ 1000000))
 then (bif (Prod.fst
 (S.histS nr (fun j => tr (j + ar)) (fun j => vr (j + ar)) (fun j => gr (j + ar)) no
 (fun j => to (j + ao)) (List.length (S.stpL nq (fun j => tq (j + aq)) rp fl) + nl)
 fun j =>
 bif Nat.blt j (List.length (S.stpL nq (fun j => tq (j + aq)) rp fl)) then
 S.at' (S.stpL nq (fun j => tq (j + aq)) rp fl) j
 else tl (j - List.length (S.stpL nq (fun j => tq (j + aq)) rp fl) + al)) !=
 (0 : Int))
 then (some (.inr ((0 : Int), Prod.fst
 (S.histS nr (fun j => tr (j + ar)) (fun j => vr (j + ar)) (fun j => gr (j + ar)) no
 (fun j => to (j + ao)) (List.length (S.stpL nq (fun j => tq (j + aq)) rp fl) + nl)
 fun j =>
 bif Nat.blt j (List.length (S.stpL nq (fun j => tq (j + aq)) rp fl)) then
 S.at' (S.stpL nq (fun j => tq (j + aq)) rp fl) j
 else tl (j - List.length (S.stpL nq (fun j => tq (j + aq)) rp fl) + al)))))
 else (bif (decide
 (0 +
 List.length
 (Prod.fst
 (Prod.snd
 (S.histS nr (fun j => tr (j + ar)) (fun j => vr (j + ar))
 (fun j => gr (j + ar)) no (fun j => to (j + ao))
 (List.length (S.stpL nq (fun j => tq (j + aq)) rp fl) + nl) fun j =>
 bif Nat.blt j (List.length (S.stpL nq (fun j => tq (j + aq)) rp fl)) then
 S.at' (S.stpL nq (fun j => tq (j + aq)) rp fl) j
 else tl (j - List.length (S.stpL nq (fun j => tq (j + aq)) rp fl) + al)))) ≤
 List.length
 (Prod.fst
 (Prod.snd
 (S.histS nr (fun j => tr (j + ar)) (fun j => vr (j + ar))
 (fun j => gr (j + ar)) no (fun j => to (j + ao))
 (List.length (S.stpL nq (fun j => tq (j + aq)) rp fl) + nl) fun j =>
 bif Nat.blt j (List.length (S.stpL nq (fun j => tq (j + aq)) rp fl)) then
 S.at' (S.stpL nq (fun j => tq (j + aq)) rp fl) j
 else tl (j - List.length (S.stpL nq (fun j => tq (j + aq)) rp fl) + al)))) ∧
 List.length
 (Prod.fst
 (Prod.snd
 (S.histS nr (fun j => tr (j + ar)) (fun j => vr (j + ar))
 (fun j => gr (j + ar)) no (fun j => to (j + ao))
 (List.length (S.stpL nq (fun j => tq (j + aq)) rp fl) + nl) fun j =>
 bif Nat.blt j (List.length (S.stpL nq (fun j => tq (j + aq)) rp fl)) then
 S.at' (S.stpL nq (fun j => tq (j + aq)) rp fl) j
 else tl (j - List.length (S.stpL nq (fun j => tq (j + aq)) rp fl) + al)))) ≤
 1000000 ∧
 0 +
 List.length
 (Prod.snd
 (Prod.snd
 (S.histS nr (fun j => tr (j + ar)) (fun j => vr (j + ar))
 (fun j => gr (j + ar)) no (fun j => to (j + ao))
 (List.length (S.stpL nq (fun j => tq (j + aq)) rp fl) + nl) fun j =>
 bif Nat.blt j (List.length (S.stpL nq (fun j => tq (j + aq)) rp fl)) then
 S.at' (S.stpL nq (fun j => tq (j + aq)) rp fl) j
 else tl (j - List.length (S.stpL nq (fun j => tq (j + aq)) rp fl) + al)))) ≤
 List.length
 (Prod.snd
 (Prod.snd
 (S.histS nr (fun j => tr (j + ar)) (fun j => vr (j + ar))
 (fun j => gr (j + ar)) no (fun j => to (j + ao))
 (List.length (S.stpL nq (fun j => tq (j + aq)) rp fl) + nl) fun j =>
 bif Nat.blt j (List.length (S.stpL nq (fun j => tq (j + aq)) rp fl)) then
 S.at' (S.stpL nq (fun j => tq (j + aq)) rp fl) j
 else tl (j - List.length (S.stpL nq (fun j => tq (j + aq)) rp fl) + al)))) ∧
 List.length
 (Prod.snd
 (Prod.snd
 (S.histS nr (fun j => tr (j + ar)) (fun j => vr (j + ar))
 (fun j => gr (j + ar)) no (fun j => to (j + ao))
 (List.length (S.stpL nq (fun j => tq (j + aq)) rp fl) + nl) fun j =>
 bif Nat.blt j (List.length (S.stpL nq (fun j => tq (j + aq)) rp fl)) then
 S.at' (S.stpL nq (fun j => tq (j + aq)) rp fl) j
 else tl (j - List.length (S.stpL nq (fun j => tq (j + aq)) rp fl) + al)))) ≤
 1000000))
 then (some (.inr (Prod.fst
 (S.fieldS
 (List.length
 (Prod.fst
 (Prod.snd
 (S.histS nr (fun j => tr (j + ar)) (fun j => vr (j + ar)) (fun j => gr (j + ar))
 no (fun j => to (j + ao)) (List.length (S.stpL nq (fun j => tq (j + aq)) rp fl) + nl)
 fun j =>
 bif Nat.blt j (List.length (S.stpL nq (fun j => tq (j + aq)) rp fl)) then
 S.at' (S.stpL nq (fun j => tq (j + aq)) rp fl) j
 else tl (j - List.length (S.stpL nq (fun j => tq (j + aq)) rp fl) + al)))))
 (fun j =>
 Prod.fst
 (S.at'
 (Prod.fst
 (Prod.snd
 (S.histS nr (fun j => tr (j + ar)) (fun j => vr (j + ar))
 (fun j => gr (j + ar)) no (fun j => to (j + ao))
 (List.length (S.stpL nq (fun j => tq (j + aq)) rp fl) + nl) fun j =>
 bif Nat.blt j (List.length (S.stpL nq (fun j => tq (j + aq)) rp fl)) then
 S.at' (S.stpL nq (fun j => tq (j + aq)) rp fl) j
 else tl (j - List.length (S.stpL nq (fun j => tq (j + aq)) rp fl) + al))))
 j))
 (fun j =>
 Prod.fst
 (Prod.snd
 (S.at'
 (Prod.fst
 (Prod.snd
 (S.histS nr (fun j => tr (j + ar)) (fun j => vr (j + ar))
 (fun j => gr (j + ar)) no (fun j => to (j + ao))
 (List.length (S.stpL nq (fun j => tq (j + aq)) rp fl) + nl) fun j =>
 bif Nat.blt j (List.length (S.stpL nq (fun j => tq (j + aq)) rp fl)) then
 S.at' (S.stpL nq (fun j => tq (j + aq)) rp fl) j
 else tl (j - List.length (S.stpL nq (fun j => tq (j + aq)) rp fl) + al))))
 j)))
 (fun j =>
 Prod.snd
 (Prod.snd
 (S.at'
 (Prod.fst
 (Prod.snd
 (S.histS nr (fun j => tr (j + ar)) (fun j => vr (j + ar))
 (fun j => gr (j + ar)) no (fun j => to (j + ao))
 (List.length (S.stpL nq (fun j => tq (j + aq)) rp fl) + nl) fun j =>
 bif Nat.blt j (List.length (S.stpL nq (fun j => tq (j + aq)) rp fl)) then
 S.at' (S.stpL nq (fun j => tq (j + aq)) rp fl) j
 else tl (j - List.length (S.stpL nq (fun j => tq (j + aq)) rp fl) + al))))
 j)))
 (List.length
 (Prod.snd
 (Prod.snd
 (S.histS nr (fun j => tr (j + ar)) (fun j => vr (j + ar)) (fun j => gr (j + ar))
 no (fun j => to (j + ao)) (List.length (S.stpL nq (fun j => tq (j + aq)) rp fl) + nl)
 fun j =>
 bif Nat.blt j (List.length (S.stpL nq (fun j => tq (j + aq)) rp fl)) then
 S.at' (S.stpL nq (fun j => tq (j + aq)) rp fl) j
 else tl (j - List.length (S.stpL nq (fun j => tq (j + aq)) rp fl) + al)))))
 fun j =>
 S.at'
 (Prod.snd
 (Prod.snd
 (S.histS nr (fun j => tr (j + ar)) (fun j => vr (j + ar)) (fun j => gr (j + ar))
 no (fun j => to (j + ao)) (List.length (S.stpL nq (fun j => tq (j + aq)) rp fl) + nl)
 fun j =>
 bif Nat.blt j (List.length (S.stpL nq (fun j => tq (j + aq)) rp fl)) then
 S.at' (S.stpL nq (fun j => tq (j + aq)) rp fl) j
 else tl (j - List.length (S.stpL nq (fun j => tq (j + aq)) rp fl) + al))))
 j), Prod.snd
 (S.fieldS
 (List.length
 (Prod.fst
 (Prod.snd
 (S.histS nr (fun j => tr (j + ar)) (fun j => vr (j + ar)) (fun j => gr (j + ar))
 no (fun j => to (j + ao)) (List.length (S.stpL nq (fun j => tq (j + aq)) rp fl) + nl)
 fun j =>
 bif Nat.blt j (List.length (S.stpL nq (fun j => tq (j + aq)) rp fl)) then
 S.at' (S.stpL nq (fun j => tq (j + aq)) rp fl) j
 else tl (j - List.length (S.stpL nq (fun j => tq (j + aq)) rp fl) + al)))))
 (fun j =>
 Prod.fst
 (S.at'
 (Prod.fst
 (Prod.snd
 (S.histS nr (fun j => tr (j + ar)) (fun j => vr (j + ar))
 (fun j => gr (j + ar)) no (fun j => to (j + ao))
 (List.length (S.stpL nq (fun j => tq (j + aq)) rp fl) + nl) fun j =>
 bif Nat.blt j (List.length (S.stpL nq (fun j => tq (j + aq)) rp fl)) then
 S.at' (S.stpL nq (fun j => tq (j + aq)) rp fl) j
 else tl (j - List.length (S.stpL nq (fun j => tq (j + aq)) rp fl) + al))))
 j))
 (fun j =>
 Prod.fst
 (Prod.snd
 (S.at'
 (Prod.fst
 (Prod.snd
 (S.histS nr (fun j => tr (j + ar)) (fun j => vr (j + ar))
 (fun j => gr (j + ar)) no (fun j => to (j + ao))
 (List.length (S.stpL nq (fun j => tq (j + aq)) rp fl) + nl) fun j =>
 bif Nat.blt j (List.length (S.stpL nq (fun j => tq (j + aq)) rp fl)) then
 S.at' (S.stpL nq (fun j => tq (j + aq)) rp fl) j
 else tl (j - List.length (S.stpL nq (fun j => tq (j + aq)) rp fl) + al))))
 j)))
 (fun j =>
 Prod.snd
 (Prod.snd
 (S.at'
 (Prod.fst
 (Prod.snd
 (S.histS nr (fun j => tr (j + ar)) (fun j => vr (j + ar))
 (fun j => gr (j + ar)) no (fun j => to (j + ao))
 (List.length (S.stpL nq (fun j => tq (j + aq)) rp fl) + nl) fun j =>
 bif Nat.blt j (List.length (S.stpL nq (fun j => tq (j + aq)) rp fl)) then
 S.at' (S.stpL nq (fun j => tq (j + aq)) rp fl) j
 else tl (j - List.length (S.stpL nq (fun j => tq (j + aq)) rp fl) + al))))
 j)))
 (List.length
 (Prod.snd
 (Prod.snd
 (S.histS nr (fun j => tr (j + ar)) (fun j => vr (j + ar)) (fun j => gr (j + ar))
 no (fun j => to (j + ao)) (List.length (S.stpL nq (fun j => tq (j + aq)) rp fl) + nl)
 fun j =>
 bif Nat.blt j (List.length (S.stpL nq (fun j => tq (j + aq)) rp fl)) then
 S.at' (S.stpL nq (fun j => tq (j + aq)) rp fl) j
 else tl (j - List.length (S.stpL nq (fun j => tq (j + aq)) rp fl) + al)))))
 fun j =>
 S.at'
 (Prod.snd
 (Prod.snd
 (S.histS nr (fun j => tr (j + ar)) (fun j => vr (j + ar)) (fun j => gr (j + ar))
 no (fun j => to (j + ao)) (List.length (S.stpL nq (fun j => tq (j + aq)) rp fl) + nl)
 fun j =>
 bif Nat.blt j (List.length (S.stpL nq (fun j => tq (j + aq)) rp fl)) then
 S.at' (S.stpL nq (fun j => tq (j + aq)) rp fl) j
 else tl (j - List.length (S.stpL nq (fun j => tq (j + aq)) rp fl) + al))))
 j))))
 else (none)))
 else (none))
 else (none))
 else (none))
 else (none))
 else (none)))
 else (bif (Prod.snd
 (S.suiS
 (S.botE
 (S.magE nr (fun j => tr (j + ar)) (fun j => vr (j + ar)) (fun j => gr (j + ar))
 no)
 (S.cyE cn nq (fun j => tq (j + aq)) rp fl))
 (S.erB (fun j => tr (j + ar)) (fun j => vr (j + ar))
 (List.length (S.stpL nq (fun j => tq (j + aq)) rp fl))
 (fun j => S.at' (S.stpL nq (fun j => tq (j + aq)) rp fl) j) (0) nr)) !=
 (0 : Int))
 then (some (.inr ((0 : Int), Prod.snd
 (S.suiS
 (S.botE
 (S.magE nr (fun j => tr (j + ar)) (fun j => vr (j + ar)) (fun j => gr (j + ar)) no)
 (S.cyE cn nq (fun j => tq (j + aq)) rp fl))
 (S.erB (fun j => tr (j + ar)) (fun j => vr (j + ar))
 (List.length (S.stpL nq (fun j => tq (j + aq)) rp fl))
 (fun j => S.at' (S.stpL nq (fun j => tq (j + aq)) rp fl) j) (0) nr)))))
 else (some (.inr ((0 : Int), (8 : Int))))))
 else (none)))
 else (none)))
 else (none)
noncomputable def Te129 (test : Bool → Prop → Prop → Prop) (Kst : KS) (Kret : KR) (ar nr mr : Nat) (tr : Nat → Int) (vr : Nat → Int) (gr : Nat → Int) (ao no mo : Nat) (to : Nat → Bool) (cn : ByteArray) (aq nq mq : Nat) (tq : Nat → Int) (rp : Int) (fl : Int) (al nl ml : Nat) (tl : Nat → Int) : Prop :=
  test (decide ((ar + nr ≤ mr ∧ nr ≤ 1000000) ∧ aq + nq ≤ mq ∧ nq ≤ 1000000))
 (test (S.botE
 (S.magE nr (fun j => tr (j + ar)) (fun j => vr (j + ar)) (fun j => gr (j + ar)) no)
 (S.cyE cn nq (fun j => tq (j + aq)) rp fl) !=
 (0 : Int))
 (Kret (PV.tup
 [PV.int IntKind.i64 (0 : Int),
 PV.int IntKind.i64
 (S.botE
 (S.magE nr (fun j => tr (j + ar)) (fun j => vr (j + ar)) (fun j => gr (j + ar))
 no)
 (S.cyE cn nq (fun j => tq (j + aq)) rp fl))]) ([[(3, false, Blk.cols ml [Col.int IntKind.i64 tl]),
 (2, false, Blk.cols mq [Col.int IntKind.i64 tq]),
 (1, false, Blk.cols mo [Col.bool to]),
 (0, false,
 Blk.cols mr
 [Col.int IntKind.i64 tr, Col.int IntKind.i64 vr, Col.int IntKind.i64 gr])]]) (7))
 (test (decide (al + nl ≤ ml ∧ nl ≤ 1000000))
 (test ((S.setE nl fun j => tl (j + al)) != (0 : Int))
 (Kret (PV.tup
 [PV.int IntKind.i64 (0 : Int), PV.int IntKind.i64 (S.setE nl fun j => tl (j + al))]) ([[(3, false, Blk.cols ml [Col.int IntKind.i64 tl]),
 (2, false, Blk.cols mq [Col.int IntKind.i64 tq]),
 (1, false, Blk.cols mo [Col.bool to]),
 (0, false,
 Blk.cols mr
 [Col.int IntKind.i64 tr, Col.int IntKind.i64 vr, Col.int IntKind.i64 gr])]]) (8))
 (test (decide
 ((ar + nr ≤ mr ∧ nr ≤ 1000000) ∧ (ao + no ≤ mo ∧ no ≤ 1000000) ∧ aq + nq ≤ mq ∧ nq ≤ 1000000))
 (test (Prod.fst
 (S.suiS
 (S.botE
 (S.magE nr (fun j => tr (j + ar)) (fun j => vr (j + ar)) (fun j => gr (j + ar)) no)
 (S.cyE cn nq (fun j => tq (j + aq)) rp fl))
 (S.erB (fun j => tr (j + ar)) (fun j => vr (j + ar))
 (List.length (S.stpL nq (fun j => tq (j + aq)) rp fl))
 (fun j => S.at' (S.stpL nq (fun j => tq (j + aq)) rp fl) j) (0) nr)))
 (test (Prod.snd
 (S.suiS
 (S.botE
 (S.magE nr (fun j => tr (j + ar)) (fun j => vr (j + ar)) (fun j => gr (j + ar))
 no)
 (S.cyE cn nq (fun j => tq (j + aq)) rp fl))
 (S.erB (fun j => tr (j + ar)) (fun j => vr (j + ar))
 (List.length (S.stpL nq (fun j => tq (j + aq)) rp fl))
 (fun j => S.at' (S.stpL nq (fun j => tq (j + aq)) rp fl) j) (0) nr)) !=
 (0 : Int))
 (Kret (PV.tup
 [PV.int IntKind.i64 (0 : Int),
 PV.int IntKind.i64
 (Prod.snd
 (S.suiS
 (S.botE
 (S.magE nr (fun j => tr (j + ar)) (fun j => vr (j + ar))
 (fun j => gr (j + ar)) no)
 (S.cyE cn nq (fun j => tq (j + aq)) rp fl))
 (S.erB (fun j => tr (j + ar)) (fun j => vr (j + ar))
 (List.length (S.stpL nq (fun j => tq (j + aq)) rp fl))
 (fun j => S.at' (S.stpL nq (fun j => tq (j + aq)) rp fl) j) (0) nr)))]) ([[(3, false, Blk.cols ml [Col.int IntKind.i64 tl]),
 (2, false, Blk.cols mq [Col.int IntKind.i64 tq]),
 (1, false, Blk.cols mo [Col.bool to]),
 (0, false,
 Blk.cols mr
 [Col.int IntKind.i64 tr, Col.int IntKind.i64 vr, Col.int IntKind.i64 gr])]]) (9))
 (test (decide (aq + nq ≤ mq ∧ nq ≤ 20 ∧ (0 : Int) ≤ rp ∧ rp ≤ (9 : Int)))
 (test (decide (List.length (S.stpL nq (fun j => tq (j + aq)) rp fl) + nl ≤ 1000000))
 (test (decide
 (List.length (S.stpL nq (fun j => tq (j + aq)) rp fl) ≤
 List.length (S.stpL nq (fun j => tq (j + aq)) rp fl)))
 (test (decide (al + nl ≤ ml))
 (test (decide
 (ar + nr ≤ mr ∧
 nr ≤ 1000000 ∧
 ao + no ≤ mo ∧
 no ≤ 1000000 ∧
 0 + (List.length (S.stpL nq (fun j => tq (j + aq)) rp fl) + nl) ≤
 List.length (S.stpL nq (fun j => tq (j + aq)) rp fl) + nl ∧
 List.length (S.stpL nq (fun j => tq (j + aq)) rp fl) + nl ≤ 1000000))
 (test (Prod.fst
 (S.histS nr (fun j => tr (j + ar)) (fun j => vr (j + ar)) (fun j => gr (j + ar)) no
 (fun j => to (j + ao)) (List.length (S.stpL nq (fun j => tq (j + aq)) rp fl) + nl)
 fun j =>
 bif Nat.blt j (List.length (S.stpL nq (fun j => tq (j + aq)) rp fl)) then
 S.at' (S.stpL nq (fun j => tq (j + aq)) rp fl) j
 else tl (j - List.length (S.stpL nq (fun j => tq (j + aq)) rp fl) + al)) !=
 (0 : Int))
 (Kret (PV.tup
 [PV.int IntKind.i64 (0 : Int),
 PV.int IntKind.i64
 (Prod.fst
 (S.histS nr (fun j => tr (j + ar)) (fun j => vr (j + ar)) (fun j => gr (j + ar))
 no (fun j => to (j + ao)) (List.length (S.stpL nq (fun j => tq (j + aq)) rp fl) + nl)
 fun j =>
 bif Nat.blt j (List.length (S.stpL nq (fun j => tq (j + aq)) rp fl)) then
 S.at' (S.stpL nq (fun j => tq (j + aq)) rp fl) j
 else tl (j - List.length (S.stpL nq (fun j => tq (j + aq)) rp fl) + al)))]) ([[(3, false, Blk.cols ml [Col.int IntKind.i64 tl]),
 (2, false, Blk.cols mq [Col.int IntKind.i64 tq]),
 (1, false, Blk.cols mo [Col.bool to]),
 (0, false,
 Blk.cols mr
 [Col.int IntKind.i64 tr, Col.int IntKind.i64 vr, Col.int IntKind.i64 gr])]]) (16))
 (test (decide
 (0 +
 List.length
 (Prod.fst
 (Prod.snd
 (S.histS nr (fun j => tr (j + ar)) (fun j => vr (j + ar))
 (fun j => gr (j + ar)) no (fun j => to (j + ao))
 (List.length (S.stpL nq (fun j => tq (j + aq)) rp fl) + nl) fun j =>
 bif Nat.blt j (List.length (S.stpL nq (fun j => tq (j + aq)) rp fl)) then
 S.at' (S.stpL nq (fun j => tq (j + aq)) rp fl) j
 else tl (j - List.length (S.stpL nq (fun j => tq (j + aq)) rp fl) + al)))) ≤
 List.length
 (Prod.fst
 (Prod.snd
 (S.histS nr (fun j => tr (j + ar)) (fun j => vr (j + ar))
 (fun j => gr (j + ar)) no (fun j => to (j + ao))
 (List.length (S.stpL nq (fun j => tq (j + aq)) rp fl) + nl) fun j =>
 bif Nat.blt j (List.length (S.stpL nq (fun j => tq (j + aq)) rp fl)) then
 S.at' (S.stpL nq (fun j => tq (j + aq)) rp fl) j
 else tl (j - List.length (S.stpL nq (fun j => tq (j + aq)) rp fl) + al)))) ∧
 List.length
 (Prod.fst
 (Prod.snd
 (S.histS nr (fun j => tr (j + ar)) (fun j => vr (j + ar))
 (fun j => gr (j + ar)) no (fun j => to (j + ao))
 (List.length (S.stpL nq (fun j => tq (j + aq)) rp fl) + nl) fun j =>
 bif Nat.blt j (List.length (S.stpL nq (fun j => tq (j + aq)) rp fl)) then
 S.at' (S.stpL nq (fun j => tq (j + aq)) rp fl) j
 else tl (j - List.length (S.stpL nq (fun j => tq (j + aq)) rp fl) + al)))) ≤
 1000000 ∧
 0 +
 List.length
 (Prod.snd
 (Prod.snd
 (S.histS nr (fun j => tr (j + ar)) (fun j => vr (j + ar))
 (fun j => gr (j + ar)) no (fun j => to (j + ao))
 (List.length (S.stpL nq (fun j => tq (j + aq)) rp fl) + nl) fun j =>
 bif Nat.blt j (List.length (S.stpL nq (fun j => tq (j + aq)) rp fl)) then
 S.at' (S.stpL nq (fun j => tq (j + aq)) rp fl) j
 else tl (j - List.length (S.stpL nq (fun j => tq (j + aq)) rp fl) + al)))) ≤
 List.length
 (Prod.snd
 (Prod.snd
 (S.histS nr (fun j => tr (j + ar)) (fun j => vr (j + ar))
 (fun j => gr (j + ar)) no (fun j => to (j + ao))
 (List.length (S.stpL nq (fun j => tq (j + aq)) rp fl) + nl) fun j =>
 bif Nat.blt j (List.length (S.stpL nq (fun j => tq (j + aq)) rp fl)) then
 S.at' (S.stpL nq (fun j => tq (j + aq)) rp fl) j
 else tl (j - List.length (S.stpL nq (fun j => tq (j + aq)) rp fl) + al)))) ∧
 List.length
 (Prod.snd
 (Prod.snd
 (S.histS nr (fun j => tr (j + ar)) (fun j => vr (j + ar))
 (fun j => gr (j + ar)) no (fun j => to (j + ao))
 (List.length (S.stpL nq (fun j => tq (j + aq)) rp fl) + nl) fun j =>
 bif Nat.blt j (List.length (S.stpL nq (fun j => tq (j + aq)) rp fl)) then
 S.at' (S.stpL nq (fun j => tq (j + aq)) rp fl) j
 else tl (j - List.length (S.stpL nq (fun j => tq (j + aq)) rp fl) + al)))) ≤
 1000000))
 (Kret (PV.tup
 [PV.int IntKind.i64
 (Prod.fst
 (S.fieldS
 (List.length
 (Prod.fst
 (Prod.snd
 (S.histS nr (fun j => tr (j + ar)) (fun j => vr (j + ar))
 (fun j => gr (j + ar)) no (fun j => to (j + ao))
 (List.length (S.stpL nq (fun j => tq (j + aq)) rp fl) + nl) fun j =>
 bif Nat.blt j (List.length (S.stpL nq (fun j => tq (j + aq)) rp fl)) then
 S.at' (S.stpL nq (fun j => tq (j + aq)) rp fl) j
 else tl (j - List.length (S.stpL nq (fun j => tq (j + aq)) rp fl) + al)))))
 (fun j =>
 Prod.fst
 (S.at'
 (Prod.fst
 (Prod.snd
 (S.histS nr (fun j => tr (j + ar)) (fun j => vr (j + ar))
 (fun j => gr (j + ar)) no (fun j => to (j + ao))
 (List.length (S.stpL nq (fun j => tq (j + aq)) rp fl) + nl) fun j =>
 bif Nat.blt j (List.length (S.stpL nq (fun j => tq (j + aq)) rp fl)) then
 S.at' (S.stpL nq (fun j => tq (j + aq)) rp fl) j
 else tl (j - List.length (S.stpL nq (fun j => tq (j + aq)) rp fl) + al))))
 j))
 (fun j =>
 Prod.fst
 (Prod.snd
 (S.at'
 (Prod.fst
 (Prod.snd
 (S.histS nr (fun j => tr (j + ar)) (fun j => vr (j + ar))
 (fun j => gr (j + ar)) no (fun j => to (j + ao))
 (List.length (S.stpL nq (fun j => tq (j + aq)) rp fl) + nl) fun j =>
 bif Nat.blt j (List.length (S.stpL nq (fun j => tq (j + aq)) rp fl)) then
 S.at' (S.stpL nq (fun j => tq (j + aq)) rp fl) j
 else tl (j - List.length (S.stpL nq (fun j => tq (j + aq)) rp fl) + al))))
 j)))
 (fun j =>
 Prod.snd
 (Prod.snd
 (S.at'
 (Prod.fst
 (Prod.snd
 (S.histS nr (fun j => tr (j + ar)) (fun j => vr (j + ar))
 (fun j => gr (j + ar)) no (fun j => to (j + ao))
 (List.length (S.stpL nq (fun j => tq (j + aq)) rp fl) + nl) fun j =>
 bif Nat.blt j (List.length (S.stpL nq (fun j => tq (j + aq)) rp fl)) then
 S.at' (S.stpL nq (fun j => tq (j + aq)) rp fl) j
 else tl (j - List.length (S.stpL nq (fun j => tq (j + aq)) rp fl) + al))))
 j)))
 (List.length
 (Prod.snd
 (Prod.snd
 (S.histS nr (fun j => tr (j + ar)) (fun j => vr (j + ar))
 (fun j => gr (j + ar)) no (fun j => to (j + ao))
 (List.length (S.stpL nq (fun j => tq (j + aq)) rp fl) + nl) fun j =>
 bif Nat.blt j (List.length (S.stpL nq (fun j => tq (j + aq)) rp fl)) then
 S.at' (S.stpL nq (fun j => tq (j + aq)) rp fl) j
 else tl (j - List.length (S.stpL nq (fun j => tq (j + aq)) rp fl) + al)))))
 fun j =>
 S.at'
 (Prod.snd
 (Prod.snd
 (S.histS nr (fun j => tr (j + ar)) (fun j => vr (j + ar))
 (fun j => gr (j + ar)) no (fun j => to (j + ao))
 (List.length (S.stpL nq (fun j => tq (j + aq)) rp fl) + nl) fun j =>
 bif Nat.blt j (List.length (S.stpL nq (fun j => tq (j + aq)) rp fl)) then
 S.at' (S.stpL nq (fun j => tq (j + aq)) rp fl) j
 else tl (j - List.length (S.stpL nq (fun j => tq (j + aq)) rp fl) + al))))
 j)),
 PV.int IntKind.i64
 (Prod.snd
 (S.fieldS
 (List.length
 (Prod.fst
 (Prod.snd
 (S.histS nr (fun j => tr (j + ar)) (fun j => vr (j + ar))
 (fun j => gr (j + ar)) no (fun j => to (j + ao))
 (List.length (S.stpL nq (fun j => tq (j + aq)) rp fl) + nl) fun j =>
 bif Nat.blt j (List.length (S.stpL nq (fun j => tq (j + aq)) rp fl)) then
 S.at' (S.stpL nq (fun j => tq (j + aq)) rp fl) j
 else tl (j - List.length (S.stpL nq (fun j => tq (j + aq)) rp fl) + al)))))
 (fun j =>
 Prod.fst
 (S.at'
 (Prod.fst
 (Prod.snd
 (S.histS nr (fun j => tr (j + ar)) (fun j => vr (j + ar))
 (fun j => gr (j + ar)) no (fun j => to (j + ao))
 (List.length (S.stpL nq (fun j => tq (j + aq)) rp fl) + nl) fun j =>
 bif Nat.blt j (List.length (S.stpL nq (fun j => tq (j + aq)) rp fl)) then
 S.at' (S.stpL nq (fun j => tq (j + aq)) rp fl) j
 else tl (j - List.length (S.stpL nq (fun j => tq (j + aq)) rp fl) + al))))
 j))
 (fun j =>
 Prod.fst
 (Prod.snd
 (S.at'
 (Prod.fst
 (Prod.snd
 (S.histS nr (fun j => tr (j + ar)) (fun j => vr (j + ar))
 (fun j => gr (j + ar)) no (fun j => to (j + ao))
 (List.length (S.stpL nq (fun j => tq (j + aq)) rp fl) + nl) fun j =>
 bif Nat.blt j (List.length (S.stpL nq (fun j => tq (j + aq)) rp fl)) then
 S.at' (S.stpL nq (fun j => tq (j + aq)) rp fl) j
 else tl (j - List.length (S.stpL nq (fun j => tq (j + aq)) rp fl) + al))))
 j)))
 (fun j =>
 Prod.snd
 (Prod.snd
 (S.at'
 (Prod.fst
 (Prod.snd
 (S.histS nr (fun j => tr (j + ar)) (fun j => vr (j + ar))
 (fun j => gr (j + ar)) no (fun j => to (j + ao))
 (List.length (S.stpL nq (fun j => tq (j + aq)) rp fl) + nl) fun j =>
 bif Nat.blt j (List.length (S.stpL nq (fun j => tq (j + aq)) rp fl)) then
 S.at' (S.stpL nq (fun j => tq (j + aq)) rp fl) j
 else tl (j - List.length (S.stpL nq (fun j => tq (j + aq)) rp fl) + al))))
 j)))
 (List.length
 (Prod.snd
 (Prod.snd
 (S.histS nr (fun j => tr (j + ar)) (fun j => vr (j + ar))
 (fun j => gr (j + ar)) no (fun j => to (j + ao))
 (List.length (S.stpL nq (fun j => tq (j + aq)) rp fl) + nl) fun j =>
 bif Nat.blt j (List.length (S.stpL nq (fun j => tq (j + aq)) rp fl)) then
 S.at' (S.stpL nq (fun j => tq (j + aq)) rp fl) j
 else tl (j - List.length (S.stpL nq (fun j => tq (j + aq)) rp fl) + al)))))
 fun j =>
 S.at'
 (Prod.snd
 (Prod.snd
 (S.histS nr (fun j => tr (j + ar)) (fun j => vr (j + ar))
 (fun j => gr (j + ar)) no (fun j => to (j + ao))
 (List.length (S.stpL nq (fun j => tq (j + aq)) rp fl) + nl) fun j =>
 bif Nat.blt j (List.length (S.stpL nq (fun j => tq (j + aq)) rp fl)) then
 S.at' (S.stpL nq (fun j => tq (j + aq)) rp fl) j
 else tl (j - List.length (S.stpL nq (fun j => tq (j + aq)) rp fl) + al))))
 j))]) ([[(3, false, Blk.cols ml [Col.int IntKind.i64 tl]),
 (2, false, Blk.cols mq [Col.int IntKind.i64 tq]),
 (1, false, Blk.cols mo [Col.bool to]),
 (0, false,
 Blk.cols mr
 [Col.int IntKind.i64 tr, Col.int IntKind.i64 vr, Col.int IntKind.i64 gr])]]) (17))
 (False)))
 (False))
 (False))
 (False))
 (False))
 (False)))
 (test (Prod.snd
 (S.suiS
 (S.botE
 (S.magE nr (fun j => tr (j + ar)) (fun j => vr (j + ar)) (fun j => gr (j + ar))
 no)
 (S.cyE cn nq (fun j => tq (j + aq)) rp fl))
 (S.erB (fun j => tr (j + ar)) (fun j => vr (j + ar))
 (List.length (S.stpL nq (fun j => tq (j + aq)) rp fl))
 (fun j => S.at' (S.stpL nq (fun j => tq (j + aq)) rp fl) j) (0) nr)) !=
 (0 : Int))
 (Kret (PV.tup
 [PV.int IntKind.i64 (0 : Int),
 PV.int IntKind.i64
 (Prod.snd
 (S.suiS
 (S.botE
 (S.magE nr (fun j => tr (j + ar)) (fun j => vr (j + ar))
 (fun j => gr (j + ar)) no)
 (S.cyE cn nq (fun j => tq (j + aq)) rp fl))
 (S.erB (fun j => tr (j + ar)) (fun j => vr (j + ar))
 (List.length (S.stpL nq (fun j => tq (j + aq)) rp fl))
 (fun j => S.at' (S.stpL nq (fun j => tq (j + aq)) rp fl) j) (0) nr)))]) ([[(3, false, Blk.cols ml [Col.int IntKind.i64 tl]),
 (2, false, Blk.cols mq [Col.int IntKind.i64 tq]),
 (1, false, Blk.cols mo [Col.bool to]),
 (0, false,
 Blk.cols mr
 [Col.int IntKind.i64 tr, Col.int IntKind.i64 vr, Col.int IntKind.i64 gr])]]) (9))
 (Kret (PV.tup [PV.int IntKind.i64 (0 : Int), PV.int IntKind.i64 (8 : Int)]) ([[(3, false, Blk.cols ml [Col.int IntKind.i64 tl]),
 (2, false, Blk.cols mq [Col.int IntKind.i64 tq]),
 (1, false, Blk.cols mo [Col.bool to]),
 (0, false,
 Blk.cols mr
 [Col.int IntKind.i64 tr, Col.int IntKind.i64 vr, Col.int IntKind.i64 gr])]]) (9))))
 (False)))
 (False)))
 (False)
theorem te129 (test : Bool → Prop → Prop → Prop) (Kst : KS) (Kret : KR) (ar nr mr : Nat) (tr : Nat → Int) (vr : Nat → Int) (gr : Nat → Int) (ao no mo : Nat) (to : Nat → Bool) (cn : ByteArray) (aq nq mq : Nat) (tq : Nat → Int) (rp : Int) (fl : Int) (al nl ml : Nat) (tl : Nat → Int) : run test Try.env true (xFA test) true 400 ⟨29, [.cd (mkFn Try.f29).body], argT 0 [.agg [.loose ⟨0, 3, ar, 0⟩ nr, .loose ⟨1, 1, ao, 0⟩ no], .agg [.str cn, .loose ⟨2, 1, aq, 0⟩ nq, .int .i64 rp, .int .i64 fl], .loose ⟨3, 1, al, 0⟩ nl], [[], [(0, (false, .cols mr [.int .i64 tr, .int .i64 vr, .int .i64 gr])), (1, (false, .cols mo [.bool to])), (2, (false, .cols mq [.int .i64 tq])), (3, (false, .cols ml [.int .i64 tl]))]], 4⟩ (proj 4 [] Kst Kret) =
  Te129 test Kst Kret ar nr mr tr vr gr ao no mo to cn aq nq mq tq rp fl al nl ml tl := by kernel_rfl
theorem be129 (ar nr mr : Nat) (tr : Nat → Int) (vr : Nat → Int) (gr : Nat → Int) (ao no mo : Nat) (to : Nat → Bool) (cn : ByteArray) (aq nq mq : Nat) (tq : Nat → Int) (rp : Int) (fl : Int) (al nl ml : Nat) (tl : Nat → Int) (Kst : KS) (Kret : KR) (x : St129 ⊕ Rt129) (hS : HS 4 400 ((I129 ar nr mr tr vr gr ao no mo to cn aq nq mq tq rp fl al nl ml tl)) Kst x) (hR : HR 4 400 ((V129 ar nr mr tr vr gr ao no mo to cn aq nq mq tq rp fl al nl ml tl)) (fun r => [newL (4 + 1) ((N129 ar nr mr tr vr gr ao no mo to cn aq nq mq tq rp fl al nl ml tl) r) ++ [(0, (false, .cols mr [.int .i64 tr, .int .i64 vr, .int .i64 gr])), (1, (false, .cols mo [.bool to])), (2, (false, .cols mq [.int .i64 tq])), (3, (false, .cols ml [.int .i64 tl]))]]) Kret x) (h : (bif (decide ((ar + nr ≤ mr ∧ nr ≤ 1000000) ∧ aq + nq ≤ mq ∧ nq ≤ 1000000))
 then (bif (S.botE
 (S.magE nr (fun j => tr (j + ar)) (fun j => vr (j + ar)) (fun j => gr (j + ar)) no)
 (S.cyE cn nq (fun j => tq (j + aq)) rp fl) !=
 (0 : Int))
 then (some (.inr ((0 : Int), S.botE
 (S.magE nr (fun j => tr (j + ar)) (fun j => vr (j + ar)) (fun j => gr (j + ar)) no)
 (S.cyE cn nq (fun j => tq (j + aq)) rp fl))))
 else (bif (decide (al + nl ≤ ml ∧ nl ≤ 1000000))
 then (bif ((S.setE nl fun j => tl (j + al)) != (0 : Int))
 then (some (.inr ((0 : Int), S.setE nl fun j => tl (j + al))))
 else (bif (decide
 ((ar + nr ≤ mr ∧ nr ≤ 1000000) ∧ (ao + no ≤ mo ∧ no ≤ 1000000) ∧ aq + nq ≤ mq ∧ nq ≤ 1000000))
 then (bif (Prod.fst
 (S.suiS
 (S.botE
 (S.magE nr (fun j => tr (j + ar)) (fun j => vr (j + ar)) (fun j => gr (j + ar)) no)
 (S.cyE cn nq (fun j => tq (j + aq)) rp fl))
 (S.erB (fun j => tr (j + ar)) (fun j => vr (j + ar))
 (List.length (S.stpL nq (fun j => tq (j + aq)) rp fl))
 (fun j => S.at' (S.stpL nq (fun j => tq (j + aq)) rp fl) j) (0) nr)))
 then (bif (Prod.snd
 (S.suiS
 (S.botE
 (S.magE nr (fun j => tr (j + ar)) (fun j => vr (j + ar)) (fun j => gr (j + ar))
 no)
 (S.cyE cn nq (fun j => tq (j + aq)) rp fl))
 (S.erB (fun j => tr (j + ar)) (fun j => vr (j + ar))
 (List.length (S.stpL nq (fun j => tq (j + aq)) rp fl))
 (fun j => S.at' (S.stpL nq (fun j => tq (j + aq)) rp fl) j) (0) nr)) !=
 (0 : Int))
 then (some (.inr ((0 : Int), Prod.snd
 (S.suiS
 (S.botE
 (S.magE nr (fun j => tr (j + ar)) (fun j => vr (j + ar)) (fun j => gr (j + ar)) no)
 (S.cyE cn nq (fun j => tq (j + aq)) rp fl))
 (S.erB (fun j => tr (j + ar)) (fun j => vr (j + ar))
 (List.length (S.stpL nq (fun j => tq (j + aq)) rp fl))
 (fun j => S.at' (S.stpL nq (fun j => tq (j + aq)) rp fl) j) (0) nr)))))
 else (bif (decide (aq + nq ≤ mq ∧ nq ≤ 20 ∧ (0 : Int) ≤ rp ∧ rp ≤ (9 : Int)))
 then (bif (decide (List.length (S.stpL nq (fun j => tq (j + aq)) rp fl) + nl ≤ 1000000))
 then (bif (decide
 (List.length (S.stpL nq (fun j => tq (j + aq)) rp fl) ≤
 List.length (S.stpL nq (fun j => tq (j + aq)) rp fl)))
 then (bif (decide (al + nl ≤ ml))
 then (bif (decide
 (ar + nr ≤ mr ∧
 nr ≤ 1000000 ∧
 ao + no ≤ mo ∧
 no ≤ 1000000 ∧
 0 + (List.length (S.stpL nq (fun j => tq (j + aq)) rp fl) + nl) ≤
 List.length (S.stpL nq (fun j => tq (j + aq)) rp fl) + nl ∧
 List.length (S.stpL nq (fun j => tq (j + aq)) rp fl) + nl ≤ 1000000))
 then (bif (Prod.fst
 (S.histS nr (fun j => tr (j + ar)) (fun j => vr (j + ar)) (fun j => gr (j + ar)) no
 (fun j => to (j + ao)) (List.length (S.stpL nq (fun j => tq (j + aq)) rp fl) + nl)
 fun j =>
 bif Nat.blt j (List.length (S.stpL nq (fun j => tq (j + aq)) rp fl)) then
 S.at' (S.stpL nq (fun j => tq (j + aq)) rp fl) j
 else tl (j - List.length (S.stpL nq (fun j => tq (j + aq)) rp fl) + al)) !=
 (0 : Int))
 then (some (.inr ((0 : Int), Prod.fst
 (S.histS nr (fun j => tr (j + ar)) (fun j => vr (j + ar)) (fun j => gr (j + ar)) no
 (fun j => to (j + ao)) (List.length (S.stpL nq (fun j => tq (j + aq)) rp fl) + nl)
 fun j =>
 bif Nat.blt j (List.length (S.stpL nq (fun j => tq (j + aq)) rp fl)) then
 S.at' (S.stpL nq (fun j => tq (j + aq)) rp fl) j
 else tl (j - List.length (S.stpL nq (fun j => tq (j + aq)) rp fl) + al)))))
 else (bif (decide
 (0 +
 List.length
 (Prod.fst
 (Prod.snd
 (S.histS nr (fun j => tr (j + ar)) (fun j => vr (j + ar))
 (fun j => gr (j + ar)) no (fun j => to (j + ao))
 (List.length (S.stpL nq (fun j => tq (j + aq)) rp fl) + nl) fun j =>
 bif Nat.blt j (List.length (S.stpL nq (fun j => tq (j + aq)) rp fl)) then
 S.at' (S.stpL nq (fun j => tq (j + aq)) rp fl) j
 else tl (j - List.length (S.stpL nq (fun j => tq (j + aq)) rp fl) + al)))) ≤
 List.length
 (Prod.fst
 (Prod.snd
 (S.histS nr (fun j => tr (j + ar)) (fun j => vr (j + ar))
 (fun j => gr (j + ar)) no (fun j => to (j + ao))
 (List.length (S.stpL nq (fun j => tq (j + aq)) rp fl) + nl) fun j =>
 bif Nat.blt j (List.length (S.stpL nq (fun j => tq (j + aq)) rp fl)) then
 S.at' (S.stpL nq (fun j => tq (j + aq)) rp fl) j
 else tl (j - List.length (S.stpL nq (fun j => tq (j + aq)) rp fl) + al)))) ∧
 List.length
 (Prod.fst
 (Prod.snd
 (S.histS nr (fun j => tr (j + ar)) (fun j => vr (j + ar))
 (fun j => gr (j + ar)) no (fun j => to (j + ao))
 (List.length (S.stpL nq (fun j => tq (j + aq)) rp fl) + nl) fun j =>
 bif Nat.blt j (List.length (S.stpL nq (fun j => tq (j + aq)) rp fl)) then
 S.at' (S.stpL nq (fun j => tq (j + aq)) rp fl) j
 else tl (j - List.length (S.stpL nq (fun j => tq (j + aq)) rp fl) + al)))) ≤
 1000000 ∧
 0 +
 List.length
 (Prod.snd
 (Prod.snd
 (S.histS nr (fun j => tr (j + ar)) (fun j => vr (j + ar))
 (fun j => gr (j + ar)) no (fun j => to (j + ao))
 (List.length (S.stpL nq (fun j => tq (j + aq)) rp fl) + nl) fun j =>
 bif Nat.blt j (List.length (S.stpL nq (fun j => tq (j + aq)) rp fl)) then
 S.at' (S.stpL nq (fun j => tq (j + aq)) rp fl) j
 else tl (j - List.length (S.stpL nq (fun j => tq (j + aq)) rp fl) + al)))) ≤
 List.length
 (Prod.snd
 (Prod.snd
 (S.histS nr (fun j => tr (j + ar)) (fun j => vr (j + ar))
 (fun j => gr (j + ar)) no (fun j => to (j + ao))
 (List.length (S.stpL nq (fun j => tq (j + aq)) rp fl) + nl) fun j =>
 bif Nat.blt j (List.length (S.stpL nq (fun j => tq (j + aq)) rp fl)) then
 S.at' (S.stpL nq (fun j => tq (j + aq)) rp fl) j
 else tl (j - List.length (S.stpL nq (fun j => tq (j + aq)) rp fl) + al)))) ∧
 List.length
 (Prod.snd
 (Prod.snd
 (S.histS nr (fun j => tr (j + ar)) (fun j => vr (j + ar))
 (fun j => gr (j + ar)) no (fun j => to (j + ao))
 (List.length (S.stpL nq (fun j => tq (j + aq)) rp fl) + nl) fun j =>
 bif Nat.blt j (List.length (S.stpL nq (fun j => tq (j + aq)) rp fl)) then
 S.at' (S.stpL nq (fun j => tq (j + aq)) rp fl) j
 else tl (j - List.length (S.stpL nq (fun j => tq (j + aq)) rp fl) + al)))) ≤
 1000000))
 then (some (.inr (Prod.fst
 (S.fieldS
 (List.length
 (Prod.fst
 (Prod.snd
 (S.histS nr (fun j => tr (j + ar)) (fun j => vr (j + ar)) (fun j => gr (j + ar))
 no (fun j => to (j + ao)) (List.length (S.stpL nq (fun j => tq (j + aq)) rp fl) + nl)
 fun j =>
 bif Nat.blt j (List.length (S.stpL nq (fun j => tq (j + aq)) rp fl)) then
 S.at' (S.stpL nq (fun j => tq (j + aq)) rp fl) j
 else tl (j - List.length (S.stpL nq (fun j => tq (j + aq)) rp fl) + al)))))
 (fun j =>
 Prod.fst
 (S.at'
 (Prod.fst
 (Prod.snd
 (S.histS nr (fun j => tr (j + ar)) (fun j => vr (j + ar))
 (fun j => gr (j + ar)) no (fun j => to (j + ao))
 (List.length (S.stpL nq (fun j => tq (j + aq)) rp fl) + nl) fun j =>
 bif Nat.blt j (List.length (S.stpL nq (fun j => tq (j + aq)) rp fl)) then
 S.at' (S.stpL nq (fun j => tq (j + aq)) rp fl) j
 else tl (j - List.length (S.stpL nq (fun j => tq (j + aq)) rp fl) + al))))
 j))
 (fun j =>
 Prod.fst
 (Prod.snd
 (S.at'
 (Prod.fst
 (Prod.snd
 (S.histS nr (fun j => tr (j + ar)) (fun j => vr (j + ar))
 (fun j => gr (j + ar)) no (fun j => to (j + ao))
 (List.length (S.stpL nq (fun j => tq (j + aq)) rp fl) + nl) fun j =>
 bif Nat.blt j (List.length (S.stpL nq (fun j => tq (j + aq)) rp fl)) then
 S.at' (S.stpL nq (fun j => tq (j + aq)) rp fl) j
 else tl (j - List.length (S.stpL nq (fun j => tq (j + aq)) rp fl) + al))))
 j)))
 (fun j =>
 Prod.snd
 (Prod.snd
 (S.at'
 (Prod.fst
 (Prod.snd
 (S.histS nr (fun j => tr (j + ar)) (fun j => vr (j + ar))
 (fun j => gr (j + ar)) no (fun j => to (j + ao))
 (List.length (S.stpL nq (fun j => tq (j + aq)) rp fl) + nl) fun j =>
 bif Nat.blt j (List.length (S.stpL nq (fun j => tq (j + aq)) rp fl)) then
 S.at' (S.stpL nq (fun j => tq (j + aq)) rp fl) j
 else tl (j - List.length (S.stpL nq (fun j => tq (j + aq)) rp fl) + al))))
 j)))
 (List.length
 (Prod.snd
 (Prod.snd
 (S.histS nr (fun j => tr (j + ar)) (fun j => vr (j + ar)) (fun j => gr (j + ar))
 no (fun j => to (j + ao)) (List.length (S.stpL nq (fun j => tq (j + aq)) rp fl) + nl)
 fun j =>
 bif Nat.blt j (List.length (S.stpL nq (fun j => tq (j + aq)) rp fl)) then
 S.at' (S.stpL nq (fun j => tq (j + aq)) rp fl) j
 else tl (j - List.length (S.stpL nq (fun j => tq (j + aq)) rp fl) + al)))))
 fun j =>
 S.at'
 (Prod.snd
 (Prod.snd
 (S.histS nr (fun j => tr (j + ar)) (fun j => vr (j + ar)) (fun j => gr (j + ar))
 no (fun j => to (j + ao)) (List.length (S.stpL nq (fun j => tq (j + aq)) rp fl) + nl)
 fun j =>
 bif Nat.blt j (List.length (S.stpL nq (fun j => tq (j + aq)) rp fl)) then
 S.at' (S.stpL nq (fun j => tq (j + aq)) rp fl) j
 else tl (j - List.length (S.stpL nq (fun j => tq (j + aq)) rp fl) + al))))
 j), Prod.snd
 (S.fieldS
 (List.length
 (Prod.fst
 (Prod.snd
 (S.histS nr (fun j => tr (j + ar)) (fun j => vr (j + ar)) (fun j => gr (j + ar))
 no (fun j => to (j + ao)) (List.length (S.stpL nq (fun j => tq (j + aq)) rp fl) + nl)
 fun j =>
 bif Nat.blt j (List.length (S.stpL nq (fun j => tq (j + aq)) rp fl)) then
 S.at' (S.stpL nq (fun j => tq (j + aq)) rp fl) j
 else tl (j - List.length (S.stpL nq (fun j => tq (j + aq)) rp fl) + al)))))
 (fun j =>
 Prod.fst
 (S.at'
 (Prod.fst
 (Prod.snd
 (S.histS nr (fun j => tr (j + ar)) (fun j => vr (j + ar))
 (fun j => gr (j + ar)) no (fun j => to (j + ao))
 (List.length (S.stpL nq (fun j => tq (j + aq)) rp fl) + nl) fun j =>
 bif Nat.blt j (List.length (S.stpL nq (fun j => tq (j + aq)) rp fl)) then
 S.at' (S.stpL nq (fun j => tq (j + aq)) rp fl) j
 else tl (j - List.length (S.stpL nq (fun j => tq (j + aq)) rp fl) + al))))
 j))
 (fun j =>
 Prod.fst
 (Prod.snd
 (S.at'
 (Prod.fst
 (Prod.snd
 (S.histS nr (fun j => tr (j + ar)) (fun j => vr (j + ar))
 (fun j => gr (j + ar)) no (fun j => to (j + ao))
 (List.length (S.stpL nq (fun j => tq (j + aq)) rp fl) + nl) fun j =>
 bif Nat.blt j (List.length (S.stpL nq (fun j => tq (j + aq)) rp fl)) then
 S.at' (S.stpL nq (fun j => tq (j + aq)) rp fl) j
 else tl (j - List.length (S.stpL nq (fun j => tq (j + aq)) rp fl) + al))))
 j)))
 (fun j =>
 Prod.snd
 (Prod.snd
 (S.at'
 (Prod.fst
 (Prod.snd
 (S.histS nr (fun j => tr (j + ar)) (fun j => vr (j + ar))
 (fun j => gr (j + ar)) no (fun j => to (j + ao))
 (List.length (S.stpL nq (fun j => tq (j + aq)) rp fl) + nl) fun j =>
 bif Nat.blt j (List.length (S.stpL nq (fun j => tq (j + aq)) rp fl)) then
 S.at' (S.stpL nq (fun j => tq (j + aq)) rp fl) j
 else tl (j - List.length (S.stpL nq (fun j => tq (j + aq)) rp fl) + al))))
 j)))
 (List.length
 (Prod.snd
 (Prod.snd
 (S.histS nr (fun j => tr (j + ar)) (fun j => vr (j + ar)) (fun j => gr (j + ar))
 no (fun j => to (j + ao)) (List.length (S.stpL nq (fun j => tq (j + aq)) rp fl) + nl)
 fun j =>
 bif Nat.blt j (List.length (S.stpL nq (fun j => tq (j + aq)) rp fl)) then
 S.at' (S.stpL nq (fun j => tq (j + aq)) rp fl) j
 else tl (j - List.length (S.stpL nq (fun j => tq (j + aq)) rp fl) + al)))))
 fun j =>
 S.at'
 (Prod.snd
 (Prod.snd
 (S.histS nr (fun j => tr (j + ar)) (fun j => vr (j + ar)) (fun j => gr (j + ar))
 no (fun j => to (j + ao)) (List.length (S.stpL nq (fun j => tq (j + aq)) rp fl) + nl)
 fun j =>
 bif Nat.blt j (List.length (S.stpL nq (fun j => tq (j + aq)) rp fl)) then
 S.at' (S.stpL nq (fun j => tq (j + aq)) rp fl) j
 else tl (j - List.length (S.stpL nq (fun j => tq (j + aq)) rp fl) + al))))
 j))))
 else (none)))
 else (none))
 else (none))
 else (none))
 else (none))
 else (none)))
 else (bif (Prod.snd
 (S.suiS
 (S.botE
 (S.magE nr (fun j => tr (j + ar)) (fun j => vr (j + ar)) (fun j => gr (j + ar))
 no)
 (S.cyE cn nq (fun j => tq (j + aq)) rp fl))
 (S.erB (fun j => tr (j + ar)) (fun j => vr (j + ar))
 (List.length (S.stpL nq (fun j => tq (j + aq)) rp fl))
 (fun j => S.at' (S.stpL nq (fun j => tq (j + aq)) rp fl) j) (0) nr)) !=
 (0 : Int))
 then (some (.inr ((0 : Int), Prod.snd
 (S.suiS
 (S.botE
 (S.magE nr (fun j => tr (j + ar)) (fun j => vr (j + ar)) (fun j => gr (j + ar)) no)
 (S.cyE cn nq (fun j => tq (j + aq)) rp fl))
 (S.erB (fun j => tr (j + ar)) (fun j => vr (j + ar))
 (List.length (S.stpL nq (fun j => tq (j + aq)) rp fl))
 (fun j => S.at' (S.stpL nq (fun j => tq (j + aq)) rp fl) j) (0) nr)))))
 else (some (.inr ((0 : Int), (8 : Int))))))
 else (none)))
 else (none)))
 else (none) : Option (St129 ⊕ Rt129)) = some x) : Te129 cond Kst Kret ar nr mr tr vr gr ao no mo to cn aq nq mq tq rp fl al nl ml tl := by
  unfold Te129
  exact bif_split h
   (fun c0 h => bif_split h
   (fun c1 h => ret_at hR _ h (fun n => n) rfl rfl rfl (rn_tup ⟨(rn_int rfl), (rn_int rfl), trivial⟩) rfl (entl_bor (use_lo rfl) rfl rfl (entl_bor (use_lo rfl) rfl rfl (entl_bor (use_lo rfl) rfl rfl (entl_bor (use_lo rfl) rfl rfl entl_nil)))))
   (fun c1 h => bif_split h
   (fun c2 h => bif_split h
   (fun c3 h => ret_at hR _ h (fun n => n) rfl rfl rfl (rn_tup ⟨(rn_int rfl), (rn_int rfl), trivial⟩) rfl (entl_bor (use_lo rfl) rfl rfl (entl_bor (use_lo rfl) rfl rfl (entl_bor (use_lo rfl) rfl rfl (entl_bor (use_lo rfl) rfl rfl entl_nil)))))
   (fun c3 h => bif_split h
   (fun c4 h => bif_split h
   (fun c5 h => bif_split h
   (fun c6 h => ret_at hR _ h (fun n => n) rfl rfl rfl (rn_tup ⟨(rn_int rfl), (rn_int rfl), trivial⟩) rfl (entl_bor (use_lo rfl) rfl rfl (entl_bor (use_lo rfl) rfl rfl (entl_bor (use_lo rfl) rfl rfl (entl_bor (use_lo rfl) rfl rfl entl_nil)))))
   (fun c6 h => bif_split h
   (fun c7 h => bif_split h
   (fun c8 h => bif_split h
   (fun c9 h => bif_split h
   (fun c10 h => bif_split h
   (fun c11 h => bif_split h
   (fun c12 h => ret_at hR _ h (fun n => n) rfl rfl rfl (rn_tup ⟨(rn_int rfl), (rn_int rfl), trivial⟩) rfl (entl_bor (use_lo rfl) rfl rfl (entl_bor (use_lo rfl) rfl rfl (entl_bor (use_lo rfl) rfl rfl (entl_bor (use_lo rfl) rfl rfl entl_nil)))))
   (fun c12 h => bif_split h
   (fun c13 h => ret_at hR _ h (fun n => n) rfl rfl rfl (rn_tup ⟨(rn_int rfl), (rn_int rfl), trivial⟩) rfl (entl_bor (use_lo rfl) rfl rfl (entl_bor (use_lo rfl) rfl rfl (entl_bor (use_lo rfl) rfl rfl (entl_bor (use_lo rfl) rfl rfl entl_nil)))))
   (fun c13 h => no_some h)))
   (fun c11 h => no_some h))
   (fun c10 h => no_some h))
   (fun c9 h => no_some h))
   (fun c8 h => no_some h))
   (fun c7 h => no_some h)))
   (fun c5 h => bif_split h
   (fun c6 h => ret_at hR _ h (fun n => n) rfl rfl rfl (rn_tup ⟨(rn_int rfl), (rn_int rfl), trivial⟩) rfl (entl_bor (use_lo rfl) rfl rfl (entl_bor (use_lo rfl) rfl rfl (entl_bor (use_lo rfl) rfl rfl (entl_bor (use_lo rfl) rfl rfl entl_nil)))))
   (fun c6 h => ret_at hR _ h (fun n => n) rfl rfl rfl (rn_tup ⟨(rn_int rfl), (rn_int rfl), trivial⟩) rfl (entl_bor (use_lo rfl) rfl rfl (entl_bor (use_lo rfl) rfl rfl (entl_bor (use_lo rfl) rfl rfl (entl_bor (use_lo rfl) rfl rfl entl_nil)))))))
   (fun c4 h => no_some h)))
   (fun c2 h => no_some h)))
   (fun c0 h => no_some h)
theorem a129 (ar nr mr : Nat) (tr : Nat → Int) (vr : Nat → Int) (gr : Nat → Int) (ao no mo : Nat) (to : Nat → Bool) (cn : ByteArray) (aq nq mq : Nat) (tq : Nat → Int) (rp : Int) (fl : Int) (al nl ml : Nat) (tl : Nat → Int) {r : Rt129} (h : Goes ((q129 ar nr mr tr vr gr ao no mo to cn aq nq mq tq rp fl al nl ml tl)) ((p129 ar nr mr tr vr gr ao no mo to cn aq nq mq tq rp fl al nl ml tl)) r) : CallR Try.prog 29 [.agg [.loose ⟨0, 3, ar, 0⟩ nr, .loose ⟨1, 1, ao, 0⟩ no], .agg [.str cn, .loose ⟨2, 1, aq, 0⟩ nq, .int .i64 rp, .int .i64 fl], .loose ⟨3, 1, al, 0⟩ nl] [[(0, (false, .cols mr [.int .i64 tr, .int .i64 vr, .int .i64 gr])), (1, (false, .cols mo [.bool to])), (2, (false, .cols mq [.int .i64 tq])), (3, (false, .cols ml [.int .i64 tl]))]] 4 ((V129 ar nr mr tr vr gr ao no mo to cn aq nq mq tq rp fl al nl ml tl) r) ((fun r => [newL (4 + 1) ((N129 ar nr mr tr vr gr ao no mo to cn aq nq mq tq rp fl al nl ml tl) r) ++ [(0, (false, .cols mr [.int .i64 tr, .int .i64 vr, .int .i64 gr])), (1, (false, .cols mo [.bool to])), (2, (false, .cols mq [.int .i64 tq])), (3, (false, .cols ml [.int .i64 tl]))]]) r) 400 ∧ ∃ F, Try.prog.funcs[29]? = some F ∧ F.body.isSome = true ∧ (F.name == "runtime.NumGoroutine") = false := by
  refine dec_calls (f := 29) (lo := 4) (hi := 400) (H := [[(0, (false, .cols mr [.int .i64 tr, .int .i64 vr, .int .i64 gr])), (1, (false, .cols mo [.bool to])), (2, (false, .cols mq [.int .i64 tq])), (3, (false, .cols ml [.int .i64 tl]))]]) (args := [.agg [.loose ⟨0, 3, ar, 0⟩ nr, .loose ⟨1, 1, ao, 0⟩ no], .agg [.str cn, .loose ⟨2, 1, aq, 0⟩ nq, .int .i64 rp, .int .i64 fl], .loose ⟨3, 1, al, 0⟩ nl]) Try.envOk Try.mixed xFA_ok ((I129 ar nr mr tr vr gr ao no mo to cn aq nq mq tq rp fl al nl ml tl)) ((V129 ar nr mr tr vr gr ao no mo to cn aq nq mq tq rp fl al nl ml tl)) (fun r => [newL (4 + 1) ((N129 ar nr mr tr vr gr ao no mo to cn aq nq mq tq rp fl al nl ml tl) r) ++ [(0, (false, .cols mr [.int .i64 tr, .int .i64 vr, .int .i64 gr])), (1, (false, .cols mo [.bool to])), (2, (false, .cols mq [.int .i64 tq])), (3, (false, .cols ml [.int .i64 tl]))]]) (fn := mkFn Try.f29) (ts := []) (n := 400) rfl (by decide) (by simp) (names_of rfl) ?_ ?_ ?_ h
  · intro s; exact s.elim
  · intro Kst Kret x hS hR h
    exact Holds.eq (te129 cond Kst Kret ar nr mr tr vr gr ao no mo to cn aq nq mq tq rp fl al nl ml tl) (be129 ar nr mr tr vr gr ao no mo to cn aq nq mq tq rp fl al nl ml tl Kst Kret x hS hR h)
  · intro Kst Kret x hS hR s h; exact s.elim
noncomputable def k129 : Con := ⟨29, [.agg [.list [.int .i64, .int .i64, .int .i64], .list [.bool]], .agg [.plain (.str), .list [.int .i64], .plain (.int .i64), .plain (.int .i64)], .one (.list [.int .i64])], fun (x : ((Nat × Nat × Nat × (Nat → Int) × (Nat → Int) × (Nat → Int) × Unit) × (Nat × Nat × Nat × (Nat → Bool) × Unit) × Unit) × (ByteArray × (Nat × Nat × Nat × (Nat → Int) × Unit) × Int × Int × Unit) × (Nat × Nat × Nat × (Nat → Int) × Unit) × Unit) => (fun (ar nr mr : Nat) (tr : Nat → Int) (vr : Nat → Int) (gr : Nat → Int) (ao no mo : Nat) (to : Nat → Bool) (cn : ByteArray) (aq nq mq : Nat) (tq : Nat → Int) (rp : Int) (fl : Int) (al nl ml : Nat) (tl : Nat → Int) => decide ((ar + nr ≤ mr ∧ nr ≤ 1000000) ∧ (ao + no ≤ mo ∧ no ≤ 1000000) ∧ (aq + nq ≤ mq ∧ nq ≤ 1000000) ∧ (al + nl ≤ ml ∧ nl ≤ 1000000))) x.1.1.1 x.1.1.2.1 x.1.1.2.2.1 x.1.1.2.2.2.1 x.1.1.2.2.2.2.1 x.1.1.2.2.2.2.2.1 x.1.2.1.1 x.1.2.1.2.1 x.1.2.1.2.2.1 x.1.2.1.2.2.2.1 x.2.1.1 x.2.1.2.1.1 x.2.1.2.1.2.1 x.2.1.2.1.2.2.1 x.2.1.2.1.2.2.2.1 x.2.1.2.2.1 x.2.1.2.2.2.1 x.2.2.1.1 x.2.2.1.2.1 x.2.2.1.2.2.1 x.2.2.1.2.2.2.1, fun (x : ((Nat × Nat × Nat × (Nat → Int) × (Nat → Int) × (Nat → Int) × Unit) × (Nat × Nat × Nat × (Nat → Bool) × Unit) × Unit) × (ByteArray × (Nat × Nat × Nat × (Nat → Int) × Unit) × Int × Int × Unit) × (Nat × Nat × Nat × (Nat → Int) × Unit) × Unit) => (fun (ar nr mr : Nat) (tr : Nat → Int) (vr : Nat → Int) (gr : Nat → Int) (ao no mo : Nat) (to : Nat → Bool) (cn : ByteArray) (aq nq mq : Nat) (tq : Nat → Int) (rp : Int) (fl : Int) (al nl ml : Nat) (tl : Nat → Int) => (V129 ar nr mr tr vr gr ao no mo to cn aq nq mq tq rp fl al nl ml tl) (S.faS (S.botE (S.magE nr (fun j => tr (j + ar)) (fun j => vr (j + ar)) (fun j => gr (j + ar)) no) (S.cyE cn nq (fun j => tq (j + aq)) rp fl)) (S.setE nl (fun j => tl (j + al))) (S.erB (fun j => tr (j + ar)) (fun j => vr (j + ar)) (S.stpL nq (fun j => tq (j + aq)) rp fl).length (fun j => S.at' (S.stpL nq (fun j => tq (j + aq)) rp fl) j) 0 nr) (S.fldH nr (fun j => tr (j + ar)) (fun j => vr (j + ar)) (fun j => gr (j + ar)) (fun j => to (j + ao)) ((S.stpL nq (fun j => tq (j + aq)) rp fl).length + nl) (fun j => bif Nat.blt j (S.stpL nq (fun j => tq (j + aq)) rp fl).length then S.at' (S.stpL nq (fun j => tq (j + aq)) rp fl) j else tl (j - (S.stpL nq (fun j => tq (j + aq)) rp fl).length + al))))) x.1.1.1 x.1.1.2.1 x.1.1.2.2.1 x.1.1.2.2.2.1 x.1.1.2.2.2.2.1 x.1.1.2.2.2.2.2.1 x.1.2.1.1 x.1.2.1.2.1 x.1.2.1.2.2.1 x.1.2.1.2.2.2.1 x.2.1.1 x.2.1.2.1.1 x.2.1.2.1.2.1 x.2.1.2.1.2.2.1 x.2.1.2.1.2.2.2.1 x.2.1.2.2.1 x.2.1.2.2.2.1 x.2.2.1.1 x.2.2.1.2.1 x.2.2.1.2.2.1 x.2.2.1.2.2.2.1, fun (x : ((Nat × Nat × Nat × (Nat → Int) × (Nat → Int) × (Nat → Int) × Unit) × (Nat × Nat × Nat × (Nat → Bool) × Unit) × Unit) × (ByteArray × (Nat × Nat × Nat × (Nat → Int) × Unit) × Int × Int × Unit) × (Nat × Nat × Nat × (Nat → Int) × Unit) × Unit) => (fun (ar nr mr : Nat) (tr : Nat → Int) (vr : Nat → Int) (gr : Nat → Int) (ao no mo : Nat) (to : Nat → Bool) (cn : ByteArray) (aq nq mq : Nat) (tq : Nat → Int) (rp : Int) (fl : Int) (al nl ml : Nat) (tl : Nat → Int) => (N129 ar nr mr tr vr gr ao no mo to cn aq nq mq tq rp fl al nl ml tl) (S.faS (S.botE (S.magE nr (fun j => tr (j + ar)) (fun j => vr (j + ar)) (fun j => gr (j + ar)) no) (S.cyE cn nq (fun j => tq (j + aq)) rp fl)) (S.setE nl (fun j => tl (j + al))) (S.erB (fun j => tr (j + ar)) (fun j => vr (j + ar)) (S.stpL nq (fun j => tq (j + aq)) rp fl).length (fun j => S.at' (S.stpL nq (fun j => tq (j + aq)) rp fl) j) 0 nr) (S.fldH nr (fun j => tr (j + ar)) (fun j => vr (j + ar)) (fun j => gr (j + ar)) (fun j => to (j + ao)) ((S.stpL nq (fun j => tq (j + aq)) rp fl).length + nl) (fun j => bif Nat.blt j (S.stpL nq (fun j => tq (j + aq)) rp fl).length then S.at' (S.stpL nq (fun j => tq (j + aq)) rp fl) j else tl (j - (S.stpL nq (fun j => tq (j + aq)) rp fl).length + al))))) x.1.1.1 x.1.1.2.1 x.1.1.2.2.1 x.1.1.2.2.2.1 x.1.1.2.2.2.2.1 x.1.1.2.2.2.2.2.1 x.1.2.1.1 x.1.2.1.2.1 x.1.2.1.2.2.1 x.1.2.1.2.2.2.1 x.2.1.1 x.2.1.2.1.1 x.2.1.2.1.2.1 x.2.1.2.1.2.2.1 x.2.1.2.1.2.2.2.1 x.2.1.2.2.1 x.2.1.2.2.2.1 x.2.2.1.1 x.2.2.1.2.1 x.2.2.1.2.2.1 x.2.2.1.2.2.2.1, fun _ _ => .dead⟩
theorem s129 (ar nr mr : Nat) (tr : Nat → Int) (vr : Nat → Int) (gr : Nat → Int) (ao no mo : Nat) (to : Nat → Bool) (cn : ByteArray) (aq nq mq : Nat) (tq : Nat → Int) (rp : Int) (fl : Int) (al nl ml : Nat) (tl : Nat → Int) (hp : (ar + nr ≤ mr ∧ nr ≤ 1000000) ∧ (ao + no ≤ mo ∧ no ≤ 1000000) ∧ (aq + nq ≤ mq ∧ nq ≤ 1000000) ∧ (al + nl ≤ ml ∧ nl ≤ 1000000)) : Goes ((q129 ar nr mr tr vr gr ao no mo to cn aq nq mq tq rp fl al nl ml tl)) ((p129 ar nr mr tr vr gr ao no mo to cn aq nq mq tq rp fl al nl ml tl)) (S.faS (S.botE (S.magE nr (fun j => tr (j + ar)) (fun j => vr (j + ar)) (fun j => gr (j + ar)) no) (S.cyE cn nq (fun j => tq (j + aq)) rp fl)) (S.setE nl (fun j => tl (j + al))) (S.erB (fun j => tr (j + ar)) (fun j => vr (j + ar)) (S.stpL nq (fun j => tq (j + aq)) rp fl).length (fun j => S.at' (S.stpL nq (fun j => tq (j + aq)) rp fl) j) 0 nr) (S.fldH nr (fun j => tr (j + ar)) (fun j => vr (j + ar)) (fun j => gr (j + ar)) (fun j => to (j + ao)) ((S.stpL nq (fun j => tq (j + aq)) rp fl).length + nl) (fun j => bif Nat.blt j (S.stpL nq (fun j => tq (j + aq)) rp fl).length then S.at' (S.stpL nq (fun j => tq (j + aq)) rp fl) j else tl (j - (S.stpL nq (fun j => tq (j + aq)) rp fl).length + al)))) := by
  obtain ⟨⟨hp1, hp2⟩, ⟨hp5, hp6⟩, ⟨hp3, hp4⟩, hp7, hp8⟩ := hp
  unfold S.faS
  by_cases hm : (S.magE nr (fun j => tr (j + ar)) (fun j => vr (j + ar)) (fun j => gr (j + ar)) no) = 0
  · by_cases hy : (S.cyE cn nq (fun j => tq (j + aq)) rp fl) = 0
    · have hb : S.botE (S.magE nr (fun j => tr (j + ar)) (fun j => vr (j + ar)) (fun j => gr (j + ar)) no) (S.cyE cn nq (fun j => tq (j + aq)) rp fl) = 0 := by unfold S.botE; rw [if_pos hm]; exact hy
      rw [if_pos hb]
      by_cases hs : (S.setE nl (fun j => tl (j + al))) = 0
      · have hset := set_0.mp hs
        have hst := stp_in hy
        have hc := cy_ok hy
        have hin : ∀ j, j < (S.stpL nq (fun j => tq (j + aq)) rp fl).length + nl → -1099511627776 ≤ (fun j => bif Nat.blt j (S.stpL nq (fun j => tq (j + aq)) rp fl).length then S.at' (S.stpL nq (fun j => tq (j + aq)) rp fl) j else tl (j - (S.stpL nq (fun j => tq (j + aq)) rp fl).length + al)) j ∧ (fun j => bif Nat.blt j (S.stpL nq (fun j => tq (j + aq)) rp fl).length then S.at' (S.stpL nq (fun j => tq (j + aq)) rp fl) j else tl (j - (S.stpL nq (fun j => tq (j + aq)) rp fl).length + al)) j ≤ 1099511627776 := fun j hj => by
          by_cases h1 : j < (S.stpL nq (fun j => tq (j + aq)) rp fl).length
          · dsimp only
            rw [show Nat.blt j (S.stpL nq (fun j => tq (j + aq)) rp fl).length = true by rw [Nat.blt_eq]; exact h1, cond_true]
            exact hst.2.2 j h1
          · dsimp only
            rw [show Nat.blt j (S.stpL nq (fun j => tq (j + aq)) rp fl).length = false by cases hb : Nat.blt j (S.stpL nq (fun j => tq (j + aq)) rp fl).length; rfl; exact absurd (lt_ok hb) h1, cond_false]
            exact hset.2 _ (by omega)
        have hh := hist_in (o := (fun j => to (j + ao))) hm (show (S.stpL nq (fun j => tq (j + aq)) rp fl).length + nl ≤ 1000 by omega) hin
        have hf := field_in (o := (fun j => to (j + ao))) (nl := (S.stpL nq (fun j => tq (j + aq)) rp fl).length + nl) (t := (fun j => bif Nat.blt j (S.stpL nq (fun j => tq (j + aq)) rp fl).length then S.at' (S.stpL nq (fun j => tq (j + aq)) rp fl) j else tl (j - (S.stpL nq (fun j => tq (j + aq)) rp fl).length + al))) hm
        have hbe : (S.behS 0 nq (fun j => tq (j + aq)) rp fl nl (fun j => tl (j + al))).2.2.2.2 = 0 := by unfold S.behS; rw [if_pos rfl, if_pos hs]
        rw [if_pos hs]
        unfold p129
        simp only [hm, hy, hb, hs, hbe, hh, hf, mkl_len]
        have hsu : ∀ A : Bool, S.suiS 0 A = (A, 0) := fun A => rfl
        have hb0 : S.botE 0 0 = 0 := rfl
        simp only [hb0, hsu]
        clear hh hf hin
        generalize S.erB (fun j => tr (j + ar)) (fun j => vr (j + ar)) (S.stpL nq (fun j => tq (j + aq)) rp fl).length (fun j => S.at' (S.stpL nq (fun j => tq (j + aq)) rp fl) j) 0 nr = A at *
        have hl1 : (S.stpL nq (fun j => tq (j + aq)) rp fl).length ≤ 181 := hst.1
        have hv := mag_ok hm
        generalize (S.fldH nr (fun j => tr (j + ar)) (fun j => vr (j + ar)) (fun j => gr (j + ar)) (fun j => to (j + ao)) ((S.stpL nq (fun j => tq (j + aq)) rp fl).length + nl) (fun j => bif Nat.blt j (S.stpL nq (fun j => tq (j + aq)) rp fl).length then S.at' (S.stpL nq (fun j => tq (j + aq)) rp fl) j else tl (j - (S.stpL nq (fun j => tq (j + aq)) rp fl).length + al))) = X at *
        generalize (S.stpL nq (fun j => tq (j + aq)) rp fl) = L at *
        cases A
        all_goals
         show Goes _ _ _
         repeat' first
           | with_reducible refine goes_if (fun h => ?_) (fun h => ?_) <;> (try simp only [lim64, imp_false, decide_eq_true_eq, decide_eq_false_iff_not, Int.toNat_natCast, toNat_pred, toNat_succ, Option.getD_some, Option.getD_none, Bool.not_eq_true', Bool.not_eq_false', Bool.and_eq_true, Bool.or_eq_true, Bool.and_eq_false_iff, Bool.or_eq_false_iff, bne_iff_ne, beq_iff_eq, bne_eq_false_iff_eq, beq_eq_false_iff_ne, ne_eq, not_and, Int.not_le, Int.not_lt, ge_iff_le, gt_iff_lt, Nat.not_lt, Nat.not_le, Bool.not_eq_true, Bool.not_eq_false, Bool.true_eq_false, Bool.false_eq_true, not_false_eq_true, not_true_eq_false] at h)
           | exact goes_none.mpr (by omega)
         all_goals first | (exfalso; omega) | exact goes_inr.mpr rfl | (exfalso; simp_all; done)
      · rw [if_neg hs]
        have hbe : (S.behS 0 nq (fun j => tq (j + aq)) rp fl nl (fun j => tl (j + al))).2.2.2.2 = (S.setE nl (fun j => tl (j + al))) := by unfold S.behS; rw [if_pos rfl, if_neg hs]
        unfold p129
        simp only [hm, hy, hbe]
        have hb0 : S.botE 0 0 = 0 := rfl
        simp only [hb0]
        generalize (S.setE nl (fun j => tl (j + al))) = e at *
        show Goes _ _ _
        repeat' first
          | with_reducible refine goes_if (fun h => ?_) (fun h => ?_) <;> (try simp only [lim64, imp_false, decide_eq_true_eq, decide_eq_false_iff_not, Int.toNat_natCast, toNat_pred, toNat_succ, Option.getD_some, Option.getD_none, Bool.not_eq_true', Bool.not_eq_false', Bool.and_eq_true, Bool.or_eq_true, Bool.and_eq_false_iff, Bool.or_eq_false_iff, bne_iff_ne, beq_iff_eq, bne_eq_false_iff_eq, beq_eq_false_iff_ne, ne_eq, not_and, Int.not_le, Int.not_lt, ge_iff_le, gt_iff_lt, Nat.not_lt, Nat.not_le, Bool.not_eq_true, Bool.not_eq_false, Bool.true_eq_false, Bool.false_eq_true, not_false_eq_true, not_true_eq_false] at h)
          | exact goes_none.mpr (by omega)
        all_goals first | (exfalso; omega) | exact goes_inr.mpr rfl | (exfalso; simp_all; done)
    · have hb : S.botE (S.magE nr (fun j => tr (j + ar)) (fun j => vr (j + ar)) (fun j => gr (j + ar)) no) (S.cyE cn nq (fun j => tq (j + aq)) rp fl) ≠ 0 := by unfold S.botE; rw [if_pos hm]; exact hy
      rw [if_neg hb]
      unfold p129
      generalize S.botE (S.magE nr (fun j => tr (j + ar)) (fun j => vr (j + ar)) (fun j => gr (j + ar)) no) (S.cyE cn nq (fun j => tq (j + aq)) rp fl) = e at *
      show Goes _ _ _
      repeat' first
        | with_reducible refine goes_if (fun h => ?_) (fun h => ?_) <;> (try simp only [lim64, imp_false, decide_eq_true_eq, decide_eq_false_iff_not, Int.toNat_natCast, toNat_pred, toNat_succ, Option.getD_some, Option.getD_none, Bool.not_eq_true', Bool.not_eq_false', Bool.and_eq_true, Bool.or_eq_true, Bool.and_eq_false_iff, Bool.or_eq_false_iff, bne_iff_ne, beq_iff_eq, bne_eq_false_iff_eq, beq_eq_false_iff_ne, ne_eq, not_and, Int.not_le, Int.not_lt, ge_iff_le, gt_iff_lt, Nat.not_lt, Nat.not_le, Bool.not_eq_true, Bool.not_eq_false, Bool.true_eq_false, Bool.false_eq_true, not_false_eq_true, not_true_eq_false] at h)
        | exact goes_none.mpr (by omega)
      all_goals first | (exfalso; omega) | exact goes_inr.mpr rfl | (exfalso; simp_all; done)
  · have hb : S.botE (S.magE nr (fun j => tr (j + ar)) (fun j => vr (j + ar)) (fun j => gr (j + ar)) no) (S.cyE cn nq (fun j => tq (j + aq)) rp fl) ≠ 0 := by unfold S.botE; rw [if_neg hm]; exact hm
    rw [if_neg hb]
    unfold p129
    generalize S.botE (S.magE nr (fun j => tr (j + ar)) (fun j => vr (j + ar)) (fun j => gr (j + ar)) no) (S.cyE cn nq (fun j => tq (j + aq)) rp fl) = e at *
    show Goes _ _ _
    repeat' first
      | with_reducible refine goes_if (fun h => ?_) (fun h => ?_) <;> (try simp only [lim64, imp_false, decide_eq_true_eq, decide_eq_false_iff_not, Int.toNat_natCast, toNat_pred, toNat_succ, Option.getD_some, Option.getD_none, Bool.not_eq_true', Bool.not_eq_false', Bool.and_eq_true, Bool.or_eq_true, Bool.and_eq_false_iff, Bool.or_eq_false_iff, bne_iff_ne, beq_iff_eq, bne_eq_false_iff_eq, beq_eq_false_iff_ne, ne_eq, not_and, Int.not_le, Int.not_lt, ge_iff_le, gt_iff_lt, Nat.not_lt, Nat.not_le, Bool.not_eq_true, Bool.not_eq_false, Bool.true_eq_false, Bool.false_eq_true, not_false_eq_true, not_true_eq_false] at h)
      | exact goes_none.mpr (by omega)
    all_goals first | (exfalso; omega) | exact goes_inr.mpr rfl | (exfalso; simp_all; done)
theorem k129_ok : k129.ok Try.prog := by
  intro x hx
  obtain ⟨⟨⟨ar, nr, mr, tr, vr, gr, _⟩, ⟨ao, no, mo, to, _⟩, _⟩, ⟨cn, ⟨aq, nq, mq, tq, _⟩, rp, fl, _⟩, ⟨al, nl, ml, tl, _⟩, _⟩ := x
  obtain ⟨h1, h2⟩ := a129 ar nr mr tr vr gr ao no mo to cn aq nq mq tq rp fl al nl ml tl (s129 ar nr mr tr vr gr ao no mo to cn aq nq mq tq rp fl al nl ml tl (of_dec hx rfl))
  exact ⟨⟨400, (by decide : 4 + 1 + 0 ≤ 400), h1⟩, h2⟩
abbrev St130 := Empty
abbrev Rt130 := Int × Int
noncomputable def V130 (ar nr mr : Nat) (tr : Nat → Int) (vr : Nat → Int) (gr : Nat → Int) (ao no mo : Nat) (to : Nat → Bool) (cn : ByteArray) (aq nq mq : Nat) (tq : Nat → Int) (rp : Int) (fl : Int) (al nl ml : Nat) (tl : Nat → Int) (r : Rt130) : PV := PV.tup [PV.int IntKind.i64 r.1, PV.int IntKind.i64 r.2]
noncomputable def N130 (ar nr mr : Nat) (tr : Nat → Int) (vr : Nat → Int) (gr : Nat → Int) (ao no mo : Nat) (to : Nat → Bool) (cn : ByteArray) (aq nq mq : Nat) (tq : Nat → Int) (rp : Int) (fl : Int) (al nl ml : Nat) (tl : Nat → Int) (r : Rt130) : List Blk := []
noncomputable def I130 (ar nr mr : Nat) (tr : Nat → Int) (vr : Nat → Int) (gr : Nat → Int) (ao no mo : Nat) (to : Nat → Bool) (cn : ByteArray) (aq nq mq : Nat) (tq : Nat → Int) (rp : Int) (fl : Int) (al nl ml : Nat) (tl : Nat → Int) : St130 → Hd := fun s => s.elim
noncomputable def q130 (ar nr mr : Nat) (tr : Nat → Int) (vr : Nat → Int) (gr : Nat → Int) (ao no mo : Nat) (to : Nat → Bool) (cn : ByteArray) (aq nq mq : Nat) (tq : Nat → Int) (rp : Int) (fl : Int) (al nl ml : Nat) (tl : Nat → Int) : St130 → Option (St130 ⊕ Rt130) := fun s => s.elim
noncomputable def p130 (ar nr mr : Nat) (tr : Nat → Int) (vr : Nat → Int) (gr : Nat → Int) (ao no mo : Nat) (to : Nat → Bool) (cn : ByteArray) (aq nq mq : Nat) (tq : Nat → Int) (rp : Int) (fl : Int) (al nl ml : Nat) (tl : Nat → Int) : Option (St130 ⊕ Rt130) := bif (decide ((ar + nr ≤ mr ∧ nr ≤ 1000000) ∧ aq + nq ≤ mq ∧ nq ≤ 1000000))
 then (bif (S.botE
 (S.magE nr (fun j => tr (j + ar)) (fun j => vr (j + ar)) (fun j => gr (j + ar)) no)
 (S.cyE cn nq (fun j => tq (j + aq)) rp fl) !=
 (0 : Int))
 then (some (.inr ((0 : Int), S.botE
 (S.magE nr (fun j => tr (j + ar)) (fun j => vr (j + ar)) (fun j => gr (j + ar)) no)
 (S.cyE cn nq (fun j => tq (j + aq)) rp fl))))
 else (bif (decide ((aq + nq ≤ mq ∧ nq ≤ 1000000) ∧ al + nl ≤ ml ∧ nl ≤ 1000000))
 then (bif (Prod.snd
 (Prod.snd
 (Prod.snd
 (Prod.snd
 (S.behS (S.cyE cn nq (fun j => tq (j + aq)) rp fl) nq (fun j => tq (j + aq)) rp fl
 nl fun j => tl (j + al))))) !=
 (0 : Int))
 then (some (.inr ((0 : Int), Prod.snd
 (Prod.snd
 (Prod.snd
 (Prod.snd
 (S.behS (S.cyE cn nq (fun j => tq (j + aq)) rp fl) nq (fun j => tq (j + aq)) rp fl
 nl fun j => tl (j + al))))))))
 else (bif (decide
 ((ar + nr ≤ mr ∧ nr ≤ 1000000) ∧ (ao + no ≤ mo ∧ no ≤ 1000000) ∧ aq + nq ≤ mq ∧ nq ≤ 1000000))
 then (bif (Prod.fst
 (S.suiS
 (S.botE
 (S.magE nr (fun j => tr (j + ar)) (fun j => vr (j + ar)) (fun j => gr (j + ar)) no)
 (S.cyE cn nq (fun j => tq (j + aq)) rp fl))
 (S.erB (fun j => tr (j + ar)) (fun j => vr (j + ar))
 (List.length (S.stpL nq (fun j => tq (j + aq)) rp fl))
 (fun j => S.at' (S.stpL nq (fun j => tq (j + aq)) rp fl) j) (0) nr)))
 then (bif (decide (aq + nq ≤ mq ∧ nq ≤ 20 ∧ (0 : Int) ≤ rp ∧ rp ≤ (9 : Int)))
 then (bif (decide (List.length (S.stpL nq (fun j => tq (j + aq)) rp fl) + nl ≤ 1000000))
 then (bif (decide
 (List.length (S.stpL nq (fun j => tq (j + aq)) rp fl) ≤
 List.length (S.stpL nq (fun j => tq (j + aq)) rp fl)))
 then (bif (decide (al + nl ≤ ml))
 then (bif (decide
 (ar + nr ≤ mr ∧
 nr ≤ 1000000 ∧
 ao + no ≤ mo ∧
 no ≤ 1000000 ∧
 0 + (List.length (S.stpL nq (fun j => tq (j + aq)) rp fl) + nl) ≤
 List.length (S.stpL nq (fun j => tq (j + aq)) rp fl) + nl ∧
 List.length (S.stpL nq (fun j => tq (j + aq)) rp fl) + nl ≤ 1000000))
 then (bif (Prod.fst
 (S.histS nr (fun j => tr (j + ar)) (fun j => vr (j + ar)) (fun j => gr (j + ar)) no
 (fun j => to (j + ao)) (List.length (S.stpL nq (fun j => tq (j + aq)) rp fl) + nl)
 fun j =>
 bif Nat.blt j (List.length (S.stpL nq (fun j => tq (j + aq)) rp fl)) then
 S.at' (S.stpL nq (fun j => tq (j + aq)) rp fl) j
 else tl (j - List.length (S.stpL nq (fun j => tq (j + aq)) rp fl) + al)) !=
 (0 : Int))
 then (some (.inr ((0 : Int), Prod.fst
 (S.histS nr (fun j => tr (j + ar)) (fun j => vr (j + ar)) (fun j => gr (j + ar)) no
 (fun j => to (j + ao)) (List.length (S.stpL nq (fun j => tq (j + aq)) rp fl) + nl)
 fun j =>
 bif Nat.blt j (List.length (S.stpL nq (fun j => tq (j + aq)) rp fl)) then
 S.at' (S.stpL nq (fun j => tq (j + aq)) rp fl) j
 else tl (j - List.length (S.stpL nq (fun j => tq (j + aq)) rp fl) + al)))))
 else (bif (decide
 (0 +
 List.length
 (Prod.fst
 (Prod.snd
 (S.histS nr (fun j => tr (j + ar)) (fun j => vr (j + ar))
 (fun j => gr (j + ar)) no (fun j => to (j + ao))
 (List.length (S.stpL nq (fun j => tq (j + aq)) rp fl) + nl) fun j =>
 bif Nat.blt j (List.length (S.stpL nq (fun j => tq (j + aq)) rp fl)) then
 S.at' (S.stpL nq (fun j => tq (j + aq)) rp fl) j
 else tl (j - List.length (S.stpL nq (fun j => tq (j + aq)) rp fl) + al)))) ≤
 List.length
 (Prod.fst
 (Prod.snd
 (S.histS nr (fun j => tr (j + ar)) (fun j => vr (j + ar))
 (fun j => gr (j + ar)) no (fun j => to (j + ao))
 (List.length (S.stpL nq (fun j => tq (j + aq)) rp fl) + nl) fun j =>
 bif Nat.blt j (List.length (S.stpL nq (fun j => tq (j + aq)) rp fl)) then
 S.at' (S.stpL nq (fun j => tq (j + aq)) rp fl) j
 else tl (j - List.length (S.stpL nq (fun j => tq (j + aq)) rp fl) + al)))) ∧
 List.length
 (Prod.fst
 (Prod.snd
 (S.histS nr (fun j => tr (j + ar)) (fun j => vr (j + ar))
 (fun j => gr (j + ar)) no (fun j => to (j + ao))
 (List.length (S.stpL nq (fun j => tq (j + aq)) rp fl) + nl) fun j =>
 bif Nat.blt j (List.length (S.stpL nq (fun j => tq (j + aq)) rp fl)) then
 S.at' (S.stpL nq (fun j => tq (j + aq)) rp fl) j
 else tl (j - List.length (S.stpL nq (fun j => tq (j + aq)) rp fl) + al)))) ≤
 1000000 ∧
 0 +
 List.length
 (Prod.snd
 (Prod.snd
 (S.histS nr (fun j => tr (j + ar)) (fun j => vr (j + ar))
 (fun j => gr (j + ar)) no (fun j => to (j + ao))
 (List.length (S.stpL nq (fun j => tq (j + aq)) rp fl) + nl) fun j =>
 bif Nat.blt j (List.length (S.stpL nq (fun j => tq (j + aq)) rp fl)) then
 S.at' (S.stpL nq (fun j => tq (j + aq)) rp fl) j
 else tl (j - List.length (S.stpL nq (fun j => tq (j + aq)) rp fl) + al)))) ≤
 List.length
 (Prod.snd
 (Prod.snd
 (S.histS nr (fun j => tr (j + ar)) (fun j => vr (j + ar))
 (fun j => gr (j + ar)) no (fun j => to (j + ao))
 (List.length (S.stpL nq (fun j => tq (j + aq)) rp fl) + nl) fun j =>
 bif Nat.blt j (List.length (S.stpL nq (fun j => tq (j + aq)) rp fl)) then
 S.at' (S.stpL nq (fun j => tq (j + aq)) rp fl) j
 else tl (j - List.length (S.stpL nq (fun j => tq (j + aq)) rp fl) + al)))) ∧
 List.length
 (Prod.snd
 (Prod.snd
 (S.histS nr (fun j => tr (j + ar)) (fun j => vr (j + ar))
 (fun j => gr (j + ar)) no (fun j => to (j + ao))
 (List.length (S.stpL nq (fun j => tq (j + aq)) rp fl) + nl) fun j =>
 bif Nat.blt j (List.length (S.stpL nq (fun j => tq (j + aq)) rp fl)) then
 S.at' (S.stpL nq (fun j => tq (j + aq)) rp fl) j
 else tl (j - List.length (S.stpL nq (fun j => tq (j + aq)) rp fl) + al)))) ≤
 1000000))
 then (some (.inr (Prod.fst
 (S.fieldS
 (List.length
 (Prod.fst
 (Prod.snd
 (S.histS nr (fun j => tr (j + ar)) (fun j => vr (j + ar)) (fun j => gr (j + ar))
 no (fun j => to (j + ao)) (List.length (S.stpL nq (fun j => tq (j + aq)) rp fl) + nl)
 fun j =>
 bif Nat.blt j (List.length (S.stpL nq (fun j => tq (j + aq)) rp fl)) then
 S.at' (S.stpL nq (fun j => tq (j + aq)) rp fl) j
 else tl (j - List.length (S.stpL nq (fun j => tq (j + aq)) rp fl) + al)))))
 (fun j =>
 Prod.fst
 (S.at'
 (Prod.fst
 (Prod.snd
 (S.histS nr (fun j => tr (j + ar)) (fun j => vr (j + ar))
 (fun j => gr (j + ar)) no (fun j => to (j + ao))
 (List.length (S.stpL nq (fun j => tq (j + aq)) rp fl) + nl) fun j =>
 bif Nat.blt j (List.length (S.stpL nq (fun j => tq (j + aq)) rp fl)) then
 S.at' (S.stpL nq (fun j => tq (j + aq)) rp fl) j
 else tl (j - List.length (S.stpL nq (fun j => tq (j + aq)) rp fl) + al))))
 j))
 (fun j =>
 Prod.fst
 (Prod.snd
 (S.at'
 (Prod.fst
 (Prod.snd
 (S.histS nr (fun j => tr (j + ar)) (fun j => vr (j + ar))
 (fun j => gr (j + ar)) no (fun j => to (j + ao))
 (List.length (S.stpL nq (fun j => tq (j + aq)) rp fl) + nl) fun j =>
 bif Nat.blt j (List.length (S.stpL nq (fun j => tq (j + aq)) rp fl)) then
 S.at' (S.stpL nq (fun j => tq (j + aq)) rp fl) j
 else tl (j - List.length (S.stpL nq (fun j => tq (j + aq)) rp fl) + al))))
 j)))
 (fun j =>
 Prod.snd
 (Prod.snd
 (S.at'
 (Prod.fst
 (Prod.snd
 (S.histS nr (fun j => tr (j + ar)) (fun j => vr (j + ar))
 (fun j => gr (j + ar)) no (fun j => to (j + ao))
 (List.length (S.stpL nq (fun j => tq (j + aq)) rp fl) + nl) fun j =>
 bif Nat.blt j (List.length (S.stpL nq (fun j => tq (j + aq)) rp fl)) then
 S.at' (S.stpL nq (fun j => tq (j + aq)) rp fl) j
 else tl (j - List.length (S.stpL nq (fun j => tq (j + aq)) rp fl) + al))))
 j)))
 (List.length
 (Prod.snd
 (Prod.snd
 (S.histS nr (fun j => tr (j + ar)) (fun j => vr (j + ar)) (fun j => gr (j + ar))
 no (fun j => to (j + ao)) (List.length (S.stpL nq (fun j => tq (j + aq)) rp fl) + nl)
 fun j =>
 bif Nat.blt j (List.length (S.stpL nq (fun j => tq (j + aq)) rp fl)) then
 S.at' (S.stpL nq (fun j => tq (j + aq)) rp fl) j
 else tl (j - List.length (S.stpL nq (fun j => tq (j + aq)) rp fl) + al)))))
 fun j =>
 S.at'
 (Prod.snd
 (Prod.snd
 (S.histS nr (fun j => tr (j + ar)) (fun j => vr (j + ar)) (fun j => gr (j + ar))
 no (fun j => to (j + ao)) (List.length (S.stpL nq (fun j => tq (j + aq)) rp fl) + nl)
 fun j =>
 bif Nat.blt j (List.length (S.stpL nq (fun j => tq (j + aq)) rp fl)) then
 S.at' (S.stpL nq (fun j => tq (j + aq)) rp fl) j
 else tl (j - List.length (S.stpL nq (fun j => tq (j + aq)) rp fl) + al))))
 j), Prod.snd
 (S.fieldS
 (List.length
 (Prod.fst
 (Prod.snd
 (S.histS nr (fun j => tr (j + ar)) (fun j => vr (j + ar)) (fun j => gr (j + ar))
 no (fun j => to (j + ao)) (List.length (S.stpL nq (fun j => tq (j + aq)) rp fl) + nl)
 fun j =>
 bif Nat.blt j (List.length (S.stpL nq (fun j => tq (j + aq)) rp fl)) then
 S.at' (S.stpL nq (fun j => tq (j + aq)) rp fl) j
 else tl (j - List.length (S.stpL nq (fun j => tq (j + aq)) rp fl) + al)))))
 (fun j =>
 Prod.fst
 (S.at'
 (Prod.fst
 (Prod.snd
 (S.histS nr (fun j => tr (j + ar)) (fun j => vr (j + ar))
 (fun j => gr (j + ar)) no (fun j => to (j + ao))
 (List.length (S.stpL nq (fun j => tq (j + aq)) rp fl) + nl) fun j =>
 bif Nat.blt j (List.length (S.stpL nq (fun j => tq (j + aq)) rp fl)) then
 S.at' (S.stpL nq (fun j => tq (j + aq)) rp fl) j
 else tl (j - List.length (S.stpL nq (fun j => tq (j + aq)) rp fl) + al))))
 j))
 (fun j =>
 Prod.fst
 (Prod.snd
 (S.at'
 (Prod.fst
 (Prod.snd
 (S.histS nr (fun j => tr (j + ar)) (fun j => vr (j + ar))
 (fun j => gr (j + ar)) no (fun j => to (j + ao))
 (List.length (S.stpL nq (fun j => tq (j + aq)) rp fl) + nl) fun j =>
 bif Nat.blt j (List.length (S.stpL nq (fun j => tq (j + aq)) rp fl)) then
 S.at' (S.stpL nq (fun j => tq (j + aq)) rp fl) j
 else tl (j - List.length (S.stpL nq (fun j => tq (j + aq)) rp fl) + al))))
 j)))
 (fun j =>
 Prod.snd
 (Prod.snd
 (S.at'
 (Prod.fst
 (Prod.snd
 (S.histS nr (fun j => tr (j + ar)) (fun j => vr (j + ar))
 (fun j => gr (j + ar)) no (fun j => to (j + ao))
 (List.length (S.stpL nq (fun j => tq (j + aq)) rp fl) + nl) fun j =>
 bif Nat.blt j (List.length (S.stpL nq (fun j => tq (j + aq)) rp fl)) then
 S.at' (S.stpL nq (fun j => tq (j + aq)) rp fl) j
 else tl (j - List.length (S.stpL nq (fun j => tq (j + aq)) rp fl) + al))))
 j)))
 (List.length
 (Prod.snd
 (Prod.snd
 (S.histS nr (fun j => tr (j + ar)) (fun j => vr (j + ar)) (fun j => gr (j + ar))
 no (fun j => to (j + ao)) (List.length (S.stpL nq (fun j => tq (j + aq)) rp fl) + nl)
 fun j =>
 bif Nat.blt j (List.length (S.stpL nq (fun j => tq (j + aq)) rp fl)) then
 S.at' (S.stpL nq (fun j => tq (j + aq)) rp fl) j
 else tl (j - List.length (S.stpL nq (fun j => tq (j + aq)) rp fl) + al)))))
 fun j =>
 S.at'
 (Prod.snd
 (Prod.snd
 (S.histS nr (fun j => tr (j + ar)) (fun j => vr (j + ar)) (fun j => gr (j + ar))
 no (fun j => to (j + ao)) (List.length (S.stpL nq (fun j => tq (j + aq)) rp fl) + nl)
 fun j =>
 bif Nat.blt j (List.length (S.stpL nq (fun j => tq (j + aq)) rp fl)) then
 S.at' (S.stpL nq (fun j => tq (j + aq)) rp fl) j
 else tl (j - List.length (S.stpL nq (fun j => tq (j + aq)) rp fl) + al))))
 j))))
 else (none)))
 else (none))
 else (none))
 else (none))
 else (none))
 else (none))
 else (some (.inr ((0 : Int), (8 : Int)))))
 else (none)))
 else (none)))
 else (none)
noncomputable def Te130 (test : Bool → Prop → Prop → Prop) (Kst : KS) (Kret : KR) (ar nr mr : Nat) (tr : Nat → Int) (vr : Nat → Int) (gr : Nat → Int) (ao no mo : Nat) (to : Nat → Bool) (cn : ByteArray) (aq nq mq : Nat) (tq : Nat → Int) (rp : Int) (fl : Int) (al nl ml : Nat) (tl : Nat → Int) : Prop :=
  test (decide ((ar + nr ≤ mr ∧ nr ≤ 1000000) ∧ aq + nq ≤ mq ∧ nq ≤ 1000000))
 (test (S.botE
 (S.magE nr (fun j => tr (j + ar)) (fun j => vr (j + ar)) (fun j => gr (j + ar)) no)
 (S.cyE cn nq (fun j => tq (j + aq)) rp fl) !=
 (0 : Int))
 (Kret (PV.tup
 [PV.int IntKind.i64 (0 : Int),
 PV.int IntKind.i64
 (S.botE
 (S.magE nr (fun j => tr (j + ar)) (fun j => vr (j + ar)) (fun j => gr (j + ar))
 no)
 (S.cyE cn nq (fun j => tq (j + aq)) rp fl))]) ([[(3, false, Blk.cols ml [Col.int IntKind.i64 tl]),
 (2, false, Blk.cols mq [Col.int IntKind.i64 tq]),
 (1, false, Blk.cols mo [Col.bool to]),
 (0, false,
 Blk.cols mr
 [Col.int IntKind.i64 tr, Col.int IntKind.i64 vr, Col.int IntKind.i64 gr])]]) (7))
 (test (decide ((aq + nq ≤ mq ∧ nq ≤ 1000000) ∧ al + nl ≤ ml ∧ nl ≤ 1000000))
 (test (Prod.snd
 (Prod.snd
 (Prod.snd
 (Prod.snd
 (S.behS (S.cyE cn nq (fun j => tq (j + aq)) rp fl) nq (fun j => tq (j + aq)) rp fl
 nl fun j => tl (j + al))))) !=
 (0 : Int))
 (Kret (PV.tup
 [PV.int IntKind.i64 (0 : Int),
 PV.int IntKind.i64
 (Prod.snd
 (Prod.snd
 (Prod.snd
 (Prod.snd
 (S.behS (S.cyE cn nq (fun j => tq (j + aq)) rp fl) nq (fun j => tq (j + aq))
 rp fl nl fun j => tl (j + al))))))]) ([[(3, false, Blk.cols ml [Col.int IntKind.i64 tl]),
 (2, false, Blk.cols mq [Col.int IntKind.i64 tq]),
 (1, false, Blk.cols mo [Col.bool to]),
 (0, false,
 Blk.cols mr
 [Col.int IntKind.i64 tr, Col.int IntKind.i64 vr, Col.int IntKind.i64 gr])]]) (9))
 (test (decide
 ((ar + nr ≤ mr ∧ nr ≤ 1000000) ∧ (ao + no ≤ mo ∧ no ≤ 1000000) ∧ aq + nq ≤ mq ∧ nq ≤ 1000000))
 (test (Prod.fst
 (S.suiS
 (S.botE
 (S.magE nr (fun j => tr (j + ar)) (fun j => vr (j + ar)) (fun j => gr (j + ar)) no)
 (S.cyE cn nq (fun j => tq (j + aq)) rp fl))
 (S.erB (fun j => tr (j + ar)) (fun j => vr (j + ar))
 (List.length (S.stpL nq (fun j => tq (j + aq)) rp fl))
 (fun j => S.at' (S.stpL nq (fun j => tq (j + aq)) rp fl) j) (0) nr)))
 (test (decide (aq + nq ≤ mq ∧ nq ≤ 20 ∧ (0 : Int) ≤ rp ∧ rp ≤ (9 : Int)))
 (test (decide (List.length (S.stpL nq (fun j => tq (j + aq)) rp fl) + nl ≤ 1000000))
 (test (decide
 (List.length (S.stpL nq (fun j => tq (j + aq)) rp fl) ≤
 List.length (S.stpL nq (fun j => tq (j + aq)) rp fl)))
 (test (decide (al + nl ≤ ml))
 (test (decide
 (ar + nr ≤ mr ∧
 nr ≤ 1000000 ∧
 ao + no ≤ mo ∧
 no ≤ 1000000 ∧
 0 + (List.length (S.stpL nq (fun j => tq (j + aq)) rp fl) + nl) ≤
 List.length (S.stpL nq (fun j => tq (j + aq)) rp fl) + nl ∧
 List.length (S.stpL nq (fun j => tq (j + aq)) rp fl) + nl ≤ 1000000))
 (test (Prod.fst
 (S.histS nr (fun j => tr (j + ar)) (fun j => vr (j + ar)) (fun j => gr (j + ar)) no
 (fun j => to (j + ao)) (List.length (S.stpL nq (fun j => tq (j + aq)) rp fl) + nl)
 fun j =>
 bif Nat.blt j (List.length (S.stpL nq (fun j => tq (j + aq)) rp fl)) then
 S.at' (S.stpL nq (fun j => tq (j + aq)) rp fl) j
 else tl (j - List.length (S.stpL nq (fun j => tq (j + aq)) rp fl) + al)) !=
 (0 : Int))
 (Kret (PV.tup
 [PV.int IntKind.i64 (0 : Int),
 PV.int IntKind.i64
 (Prod.fst
 (S.histS nr (fun j => tr (j + ar)) (fun j => vr (j + ar)) (fun j => gr (j + ar))
 no (fun j => to (j + ao)) (List.length (S.stpL nq (fun j => tq (j + aq)) rp fl) + nl)
 fun j =>
 bif Nat.blt j (List.length (S.stpL nq (fun j => tq (j + aq)) rp fl)) then
 S.at' (S.stpL nq (fun j => tq (j + aq)) rp fl) j
 else tl (j - List.length (S.stpL nq (fun j => tq (j + aq)) rp fl) + al)))]) ([[(3, false, Blk.cols ml [Col.int IntKind.i64 tl]),
 (2, false, Blk.cols mq [Col.int IntKind.i64 tq]),
 (1, false, Blk.cols mo [Col.bool to]),
 (0, false,
 Blk.cols mr
 [Col.int IntKind.i64 tr, Col.int IntKind.i64 vr, Col.int IntKind.i64 gr])]]) (17))
 (test (decide
 (0 +
 List.length
 (Prod.fst
 (Prod.snd
 (S.histS nr (fun j => tr (j + ar)) (fun j => vr (j + ar))
 (fun j => gr (j + ar)) no (fun j => to (j + ao))
 (List.length (S.stpL nq (fun j => tq (j + aq)) rp fl) + nl) fun j =>
 bif Nat.blt j (List.length (S.stpL nq (fun j => tq (j + aq)) rp fl)) then
 S.at' (S.stpL nq (fun j => tq (j + aq)) rp fl) j
 else tl (j - List.length (S.stpL nq (fun j => tq (j + aq)) rp fl) + al)))) ≤
 List.length
 (Prod.fst
 (Prod.snd
 (S.histS nr (fun j => tr (j + ar)) (fun j => vr (j + ar))
 (fun j => gr (j + ar)) no (fun j => to (j + ao))
 (List.length (S.stpL nq (fun j => tq (j + aq)) rp fl) + nl) fun j =>
 bif Nat.blt j (List.length (S.stpL nq (fun j => tq (j + aq)) rp fl)) then
 S.at' (S.stpL nq (fun j => tq (j + aq)) rp fl) j
 else tl (j - List.length (S.stpL nq (fun j => tq (j + aq)) rp fl) + al)))) ∧
 List.length
 (Prod.fst
 (Prod.snd
 (S.histS nr (fun j => tr (j + ar)) (fun j => vr (j + ar))
 (fun j => gr (j + ar)) no (fun j => to (j + ao))
 (List.length (S.stpL nq (fun j => tq (j + aq)) rp fl) + nl) fun j =>
 bif Nat.blt j (List.length (S.stpL nq (fun j => tq (j + aq)) rp fl)) then
 S.at' (S.stpL nq (fun j => tq (j + aq)) rp fl) j
 else tl (j - List.length (S.stpL nq (fun j => tq (j + aq)) rp fl) + al)))) ≤
 1000000 ∧
 0 +
 List.length
 (Prod.snd
 (Prod.snd
 (S.histS nr (fun j => tr (j + ar)) (fun j => vr (j + ar))
 (fun j => gr (j + ar)) no (fun j => to (j + ao))
 (List.length (S.stpL nq (fun j => tq (j + aq)) rp fl) + nl) fun j =>
 bif Nat.blt j (List.length (S.stpL nq (fun j => tq (j + aq)) rp fl)) then
 S.at' (S.stpL nq (fun j => tq (j + aq)) rp fl) j
 else tl (j - List.length (S.stpL nq (fun j => tq (j + aq)) rp fl) + al)))) ≤
 List.length
 (Prod.snd
 (Prod.snd
 (S.histS nr (fun j => tr (j + ar)) (fun j => vr (j + ar))
 (fun j => gr (j + ar)) no (fun j => to (j + ao))
 (List.length (S.stpL nq (fun j => tq (j + aq)) rp fl) + nl) fun j =>
 bif Nat.blt j (List.length (S.stpL nq (fun j => tq (j + aq)) rp fl)) then
 S.at' (S.stpL nq (fun j => tq (j + aq)) rp fl) j
 else tl (j - List.length (S.stpL nq (fun j => tq (j + aq)) rp fl) + al)))) ∧
 List.length
 (Prod.snd
 (Prod.snd
 (S.histS nr (fun j => tr (j + ar)) (fun j => vr (j + ar))
 (fun j => gr (j + ar)) no (fun j => to (j + ao))
 (List.length (S.stpL nq (fun j => tq (j + aq)) rp fl) + nl) fun j =>
 bif Nat.blt j (List.length (S.stpL nq (fun j => tq (j + aq)) rp fl)) then
 S.at' (S.stpL nq (fun j => tq (j + aq)) rp fl) j
 else tl (j - List.length (S.stpL nq (fun j => tq (j + aq)) rp fl) + al)))) ≤
 1000000))
 (Kret (PV.tup
 [PV.int IntKind.i64
 (Prod.fst
 (S.fieldS
 (List.length
 (Prod.fst
 (Prod.snd
 (S.histS nr (fun j => tr (j + ar)) (fun j => vr (j + ar))
 (fun j => gr (j + ar)) no (fun j => to (j + ao))
 (List.length (S.stpL nq (fun j => tq (j + aq)) rp fl) + nl) fun j =>
 bif Nat.blt j (List.length (S.stpL nq (fun j => tq (j + aq)) rp fl)) then
 S.at' (S.stpL nq (fun j => tq (j + aq)) rp fl) j
 else tl (j - List.length (S.stpL nq (fun j => tq (j + aq)) rp fl) + al)))))
 (fun j =>
 Prod.fst
 (S.at'
 (Prod.fst
 (Prod.snd
 (S.histS nr (fun j => tr (j + ar)) (fun j => vr (j + ar))
 (fun j => gr (j + ar)) no (fun j => to (j + ao))
 (List.length (S.stpL nq (fun j => tq (j + aq)) rp fl) + nl) fun j =>
 bif Nat.blt j (List.length (S.stpL nq (fun j => tq (j + aq)) rp fl)) then
 S.at' (S.stpL nq (fun j => tq (j + aq)) rp fl) j
 else tl (j - List.length (S.stpL nq (fun j => tq (j + aq)) rp fl) + al))))
 j))
 (fun j =>
 Prod.fst
 (Prod.snd
 (S.at'
 (Prod.fst
 (Prod.snd
 (S.histS nr (fun j => tr (j + ar)) (fun j => vr (j + ar))
 (fun j => gr (j + ar)) no (fun j => to (j + ao))
 (List.length (S.stpL nq (fun j => tq (j + aq)) rp fl) + nl) fun j =>
 bif Nat.blt j (List.length (S.stpL nq (fun j => tq (j + aq)) rp fl)) then
 S.at' (S.stpL nq (fun j => tq (j + aq)) rp fl) j
 else tl (j - List.length (S.stpL nq (fun j => tq (j + aq)) rp fl) + al))))
 j)))
 (fun j =>
 Prod.snd
 (Prod.snd
 (S.at'
 (Prod.fst
 (Prod.snd
 (S.histS nr (fun j => tr (j + ar)) (fun j => vr (j + ar))
 (fun j => gr (j + ar)) no (fun j => to (j + ao))
 (List.length (S.stpL nq (fun j => tq (j + aq)) rp fl) + nl) fun j =>
 bif Nat.blt j (List.length (S.stpL nq (fun j => tq (j + aq)) rp fl)) then
 S.at' (S.stpL nq (fun j => tq (j + aq)) rp fl) j
 else tl (j - List.length (S.stpL nq (fun j => tq (j + aq)) rp fl) + al))))
 j)))
 (List.length
 (Prod.snd
 (Prod.snd
 (S.histS nr (fun j => tr (j + ar)) (fun j => vr (j + ar))
 (fun j => gr (j + ar)) no (fun j => to (j + ao))
 (List.length (S.stpL nq (fun j => tq (j + aq)) rp fl) + nl) fun j =>
 bif Nat.blt j (List.length (S.stpL nq (fun j => tq (j + aq)) rp fl)) then
 S.at' (S.stpL nq (fun j => tq (j + aq)) rp fl) j
 else tl (j - List.length (S.stpL nq (fun j => tq (j + aq)) rp fl) + al)))))
 fun j =>
 S.at'
 (Prod.snd
 (Prod.snd
 (S.histS nr (fun j => tr (j + ar)) (fun j => vr (j + ar))
 (fun j => gr (j + ar)) no (fun j => to (j + ao))
 (List.length (S.stpL nq (fun j => tq (j + aq)) rp fl) + nl) fun j =>
 bif Nat.blt j (List.length (S.stpL nq (fun j => tq (j + aq)) rp fl)) then
 S.at' (S.stpL nq (fun j => tq (j + aq)) rp fl) j
 else tl (j - List.length (S.stpL nq (fun j => tq (j + aq)) rp fl) + al))))
 j)),
 PV.int IntKind.i64
 (Prod.snd
 (S.fieldS
 (List.length
 (Prod.fst
 (Prod.snd
 (S.histS nr (fun j => tr (j + ar)) (fun j => vr (j + ar))
 (fun j => gr (j + ar)) no (fun j => to (j + ao))
 (List.length (S.stpL nq (fun j => tq (j + aq)) rp fl) + nl) fun j =>
 bif Nat.blt j (List.length (S.stpL nq (fun j => tq (j + aq)) rp fl)) then
 S.at' (S.stpL nq (fun j => tq (j + aq)) rp fl) j
 else tl (j - List.length (S.stpL nq (fun j => tq (j + aq)) rp fl) + al)))))
 (fun j =>
 Prod.fst
 (S.at'
 (Prod.fst
 (Prod.snd
 (S.histS nr (fun j => tr (j + ar)) (fun j => vr (j + ar))
 (fun j => gr (j + ar)) no (fun j => to (j + ao))
 (List.length (S.stpL nq (fun j => tq (j + aq)) rp fl) + nl) fun j =>
 bif Nat.blt j (List.length (S.stpL nq (fun j => tq (j + aq)) rp fl)) then
 S.at' (S.stpL nq (fun j => tq (j + aq)) rp fl) j
 else tl (j - List.length (S.stpL nq (fun j => tq (j + aq)) rp fl) + al))))
 j))
 (fun j =>
 Prod.fst
 (Prod.snd
 (S.at'
 (Prod.fst
 (Prod.snd
 (S.histS nr (fun j => tr (j + ar)) (fun j => vr (j + ar))
 (fun j => gr (j + ar)) no (fun j => to (j + ao))
 (List.length (S.stpL nq (fun j => tq (j + aq)) rp fl) + nl) fun j =>
 bif Nat.blt j (List.length (S.stpL nq (fun j => tq (j + aq)) rp fl)) then
 S.at' (S.stpL nq (fun j => tq (j + aq)) rp fl) j
 else tl (j - List.length (S.stpL nq (fun j => tq (j + aq)) rp fl) + al))))
 j)))
 (fun j =>
 Prod.snd
 (Prod.snd
 (S.at'
 (Prod.fst
 (Prod.snd
 (S.histS nr (fun j => tr (j + ar)) (fun j => vr (j + ar))
 (fun j => gr (j + ar)) no (fun j => to (j + ao))
 (List.length (S.stpL nq (fun j => tq (j + aq)) rp fl) + nl) fun j =>
 bif Nat.blt j (List.length (S.stpL nq (fun j => tq (j + aq)) rp fl)) then
 S.at' (S.stpL nq (fun j => tq (j + aq)) rp fl) j
 else tl (j - List.length (S.stpL nq (fun j => tq (j + aq)) rp fl) + al))))
 j)))
 (List.length
 (Prod.snd
 (Prod.snd
 (S.histS nr (fun j => tr (j + ar)) (fun j => vr (j + ar))
 (fun j => gr (j + ar)) no (fun j => to (j + ao))
 (List.length (S.stpL nq (fun j => tq (j + aq)) rp fl) + nl) fun j =>
 bif Nat.blt j (List.length (S.stpL nq (fun j => tq (j + aq)) rp fl)) then
 S.at' (S.stpL nq (fun j => tq (j + aq)) rp fl) j
 else tl (j - List.length (S.stpL nq (fun j => tq (j + aq)) rp fl) + al)))))
 fun j =>
 S.at'
 (Prod.snd
 (Prod.snd
 (S.histS nr (fun j => tr (j + ar)) (fun j => vr (j + ar))
 (fun j => gr (j + ar)) no (fun j => to (j + ao))
 (List.length (S.stpL nq (fun j => tq (j + aq)) rp fl) + nl) fun j =>
 bif Nat.blt j (List.length (S.stpL nq (fun j => tq (j + aq)) rp fl)) then
 S.at' (S.stpL nq (fun j => tq (j + aq)) rp fl) j
 else tl (j - List.length (S.stpL nq (fun j => tq (j + aq)) rp fl) + al))))
 j))]) ([[(3, false, Blk.cols ml [Col.int IntKind.i64 tl]),
 (2, false, Blk.cols mq [Col.int IntKind.i64 tq]),
 (1, false, Blk.cols mo [Col.bool to]),
 (0, false,
 Blk.cols mr
 [Col.int IntKind.i64 tr, Col.int IntKind.i64 vr, Col.int IntKind.i64 gr])]]) (18))
 (False)))
 (False))
 (False))
 (False))
 (False))
 (False))
 (Kret (PV.tup [PV.int IntKind.i64 (0 : Int), PV.int IntKind.i64 (8 : Int)]) ([[(3, false, Blk.cols ml [Col.int IntKind.i64 tl]),
 (2, false, Blk.cols mq [Col.int IntKind.i64 tq]),
 (1, false, Blk.cols mo [Col.bool to]),
 (0, false,
 Blk.cols mr
 [Col.int IntKind.i64 tr, Col.int IntKind.i64 vr, Col.int IntKind.i64 gr])]]) (10)))
 (False)))
 (False)))
 (False)
theorem te130 (test : Bool → Prop → Prop → Prop) (Kst : KS) (Kret : KR) (ar nr mr : Nat) (tr : Nat → Int) (vr : Nat → Int) (gr : Nat → Int) (ao no mo : Nat) (to : Nat → Bool) (cn : ByteArray) (aq nq mq : Nat) (tq : Nat → Int) (rp : Int) (fl : Int) (al nl ml : Nat) (tl : Nat → Int) : run test Try.env true (xFA test) true 400 ⟨30, [.cd (mkFn Try.f30).body], argT 0 [.agg [.loose ⟨0, 3, ar, 0⟩ nr, .loose ⟨1, 1, ao, 0⟩ no], .agg [.str cn, .loose ⟨2, 1, aq, 0⟩ nq, .int .i64 rp, .int .i64 fl], .loose ⟨3, 1, al, 0⟩ nl], [[], [(0, (false, .cols mr [.int .i64 tr, .int .i64 vr, .int .i64 gr])), (1, (false, .cols mo [.bool to])), (2, (false, .cols mq [.int .i64 tq])), (3, (false, .cols ml [.int .i64 tl]))]], 4⟩ (proj 4 [] Kst Kret) =
  Te130 test Kst Kret ar nr mr tr vr gr ao no mo to cn aq nq mq tq rp fl al nl ml tl := by kernel_rfl
theorem be130 (ar nr mr : Nat) (tr : Nat → Int) (vr : Nat → Int) (gr : Nat → Int) (ao no mo : Nat) (to : Nat → Bool) (cn : ByteArray) (aq nq mq : Nat) (tq : Nat → Int) (rp : Int) (fl : Int) (al nl ml : Nat) (tl : Nat → Int) (Kst : KS) (Kret : KR) (x : St130 ⊕ Rt130) (hS : HS 4 400 ((I130 ar nr mr tr vr gr ao no mo to cn aq nq mq tq rp fl al nl ml tl)) Kst x) (hR : HR 4 400 ((V130 ar nr mr tr vr gr ao no mo to cn aq nq mq tq rp fl al nl ml tl)) (fun r => [newL (4 + 1) ((N130 ar nr mr tr vr gr ao no mo to cn aq nq mq tq rp fl al nl ml tl) r) ++ [(0, (false, .cols mr [.int .i64 tr, .int .i64 vr, .int .i64 gr])), (1, (false, .cols mo [.bool to])), (2, (false, .cols mq [.int .i64 tq])), (3, (false, .cols ml [.int .i64 tl]))]]) Kret x) (h : (bif (decide ((ar + nr ≤ mr ∧ nr ≤ 1000000) ∧ aq + nq ≤ mq ∧ nq ≤ 1000000))
 then (bif (S.botE
 (S.magE nr (fun j => tr (j + ar)) (fun j => vr (j + ar)) (fun j => gr (j + ar)) no)
 (S.cyE cn nq (fun j => tq (j + aq)) rp fl) !=
 (0 : Int))
 then (some (.inr ((0 : Int), S.botE
 (S.magE nr (fun j => tr (j + ar)) (fun j => vr (j + ar)) (fun j => gr (j + ar)) no)
 (S.cyE cn nq (fun j => tq (j + aq)) rp fl))))
 else (bif (decide ((aq + nq ≤ mq ∧ nq ≤ 1000000) ∧ al + nl ≤ ml ∧ nl ≤ 1000000))
 then (bif (Prod.snd
 (Prod.snd
 (Prod.snd
 (Prod.snd
 (S.behS (S.cyE cn nq (fun j => tq (j + aq)) rp fl) nq (fun j => tq (j + aq)) rp fl
 nl fun j => tl (j + al))))) !=
 (0 : Int))
 then (some (.inr ((0 : Int), Prod.snd
 (Prod.snd
 (Prod.snd
 (Prod.snd
 (S.behS (S.cyE cn nq (fun j => tq (j + aq)) rp fl) nq (fun j => tq (j + aq)) rp fl
 nl fun j => tl (j + al))))))))
 else (bif (decide
 ((ar + nr ≤ mr ∧ nr ≤ 1000000) ∧ (ao + no ≤ mo ∧ no ≤ 1000000) ∧ aq + nq ≤ mq ∧ nq ≤ 1000000))
 then (bif (Prod.fst
 (S.suiS
 (S.botE
 (S.magE nr (fun j => tr (j + ar)) (fun j => vr (j + ar)) (fun j => gr (j + ar)) no)
 (S.cyE cn nq (fun j => tq (j + aq)) rp fl))
 (S.erB (fun j => tr (j + ar)) (fun j => vr (j + ar))
 (List.length (S.stpL nq (fun j => tq (j + aq)) rp fl))
 (fun j => S.at' (S.stpL nq (fun j => tq (j + aq)) rp fl) j) (0) nr)))
 then (bif (decide (aq + nq ≤ mq ∧ nq ≤ 20 ∧ (0 : Int) ≤ rp ∧ rp ≤ (9 : Int)))
 then (bif (decide (List.length (S.stpL nq (fun j => tq (j + aq)) rp fl) + nl ≤ 1000000))
 then (bif (decide
 (List.length (S.stpL nq (fun j => tq (j + aq)) rp fl) ≤
 List.length (S.stpL nq (fun j => tq (j + aq)) rp fl)))
 then (bif (decide (al + nl ≤ ml))
 then (bif (decide
 (ar + nr ≤ mr ∧
 nr ≤ 1000000 ∧
 ao + no ≤ mo ∧
 no ≤ 1000000 ∧
 0 + (List.length (S.stpL nq (fun j => tq (j + aq)) rp fl) + nl) ≤
 List.length (S.stpL nq (fun j => tq (j + aq)) rp fl) + nl ∧
 List.length (S.stpL nq (fun j => tq (j + aq)) rp fl) + nl ≤ 1000000))
 then (bif (Prod.fst
 (S.histS nr (fun j => tr (j + ar)) (fun j => vr (j + ar)) (fun j => gr (j + ar)) no
 (fun j => to (j + ao)) (List.length (S.stpL nq (fun j => tq (j + aq)) rp fl) + nl)
 fun j =>
 bif Nat.blt j (List.length (S.stpL nq (fun j => tq (j + aq)) rp fl)) then
 S.at' (S.stpL nq (fun j => tq (j + aq)) rp fl) j
 else tl (j - List.length (S.stpL nq (fun j => tq (j + aq)) rp fl) + al)) !=
 (0 : Int))
 then (some (.inr ((0 : Int), Prod.fst
 (S.histS nr (fun j => tr (j + ar)) (fun j => vr (j + ar)) (fun j => gr (j + ar)) no
 (fun j => to (j + ao)) (List.length (S.stpL nq (fun j => tq (j + aq)) rp fl) + nl)
 fun j =>
 bif Nat.blt j (List.length (S.stpL nq (fun j => tq (j + aq)) rp fl)) then
 S.at' (S.stpL nq (fun j => tq (j + aq)) rp fl) j
 else tl (j - List.length (S.stpL nq (fun j => tq (j + aq)) rp fl) + al)))))
 else (bif (decide
 (0 +
 List.length
 (Prod.fst
 (Prod.snd
 (S.histS nr (fun j => tr (j + ar)) (fun j => vr (j + ar))
 (fun j => gr (j + ar)) no (fun j => to (j + ao))
 (List.length (S.stpL nq (fun j => tq (j + aq)) rp fl) + nl) fun j =>
 bif Nat.blt j (List.length (S.stpL nq (fun j => tq (j + aq)) rp fl)) then
 S.at' (S.stpL nq (fun j => tq (j + aq)) rp fl) j
 else tl (j - List.length (S.stpL nq (fun j => tq (j + aq)) rp fl) + al)))) ≤
 List.length
 (Prod.fst
 (Prod.snd
 (S.histS nr (fun j => tr (j + ar)) (fun j => vr (j + ar))
 (fun j => gr (j + ar)) no (fun j => to (j + ao))
 (List.length (S.stpL nq (fun j => tq (j + aq)) rp fl) + nl) fun j =>
 bif Nat.blt j (List.length (S.stpL nq (fun j => tq (j + aq)) rp fl)) then
 S.at' (S.stpL nq (fun j => tq (j + aq)) rp fl) j
 else tl (j - List.length (S.stpL nq (fun j => tq (j + aq)) rp fl) + al)))) ∧
 List.length
 (Prod.fst
 (Prod.snd
 (S.histS nr (fun j => tr (j + ar)) (fun j => vr (j + ar))
 (fun j => gr (j + ar)) no (fun j => to (j + ao))
 (List.length (S.stpL nq (fun j => tq (j + aq)) rp fl) + nl) fun j =>
 bif Nat.blt j (List.length (S.stpL nq (fun j => tq (j + aq)) rp fl)) then
 S.at' (S.stpL nq (fun j => tq (j + aq)) rp fl) j
 else tl (j - List.length (S.stpL nq (fun j => tq (j + aq)) rp fl) + al)))) ≤
 1000000 ∧
 0 +
 List.length
 (Prod.snd
 (Prod.snd
 (S.histS nr (fun j => tr (j + ar)) (fun j => vr (j + ar))
 (fun j => gr (j + ar)) no (fun j => to (j + ao))
 (List.length (S.stpL nq (fun j => tq (j + aq)) rp fl) + nl) fun j =>
 bif Nat.blt j (List.length (S.stpL nq (fun j => tq (j + aq)) rp fl)) then
 S.at' (S.stpL nq (fun j => tq (j + aq)) rp fl) j
 else tl (j - List.length (S.stpL nq (fun j => tq (j + aq)) rp fl) + al)))) ≤
 List.length
 (Prod.snd
 (Prod.snd
 (S.histS nr (fun j => tr (j + ar)) (fun j => vr (j + ar))
 (fun j => gr (j + ar)) no (fun j => to (j + ao))
 (List.length (S.stpL nq (fun j => tq (j + aq)) rp fl) + nl) fun j =>
 bif Nat.blt j (List.length (S.stpL nq (fun j => tq (j + aq)) rp fl)) then
 S.at' (S.stpL nq (fun j => tq (j + aq)) rp fl) j
 else tl (j - List.length (S.stpL nq (fun j => tq (j + aq)) rp fl) + al)))) ∧
 List.length
 (Prod.snd
 (Prod.snd
 (S.histS nr (fun j => tr (j + ar)) (fun j => vr (j + ar))
 (fun j => gr (j + ar)) no (fun j => to (j + ao))
 (List.length (S.stpL nq (fun j => tq (j + aq)) rp fl) + nl) fun j =>
 bif Nat.blt j (List.length (S.stpL nq (fun j => tq (j + aq)) rp fl)) then
 S.at' (S.stpL nq (fun j => tq (j + aq)) rp fl) j
 else tl (j - List.length (S.stpL nq (fun j => tq (j + aq)) rp fl) + al)))) ≤
 1000000))
 then (some (.inr (Prod.fst
 (S.fieldS
 (List.length
 (Prod.fst
 (Prod.snd
 (S.histS nr (fun j => tr (j + ar)) (fun j => vr (j + ar)) (fun j => gr (j + ar))
 no (fun j => to (j + ao)) (List.length (S.stpL nq (fun j => tq (j + aq)) rp fl) + nl)
 fun j =>
 bif Nat.blt j (List.length (S.stpL nq (fun j => tq (j + aq)) rp fl)) then
 S.at' (S.stpL nq (fun j => tq (j + aq)) rp fl) j
 else tl (j - List.length (S.stpL nq (fun j => tq (j + aq)) rp fl) + al)))))
 (fun j =>
 Prod.fst
 (S.at'
 (Prod.fst
 (Prod.snd
 (S.histS nr (fun j => tr (j + ar)) (fun j => vr (j + ar))
 (fun j => gr (j + ar)) no (fun j => to (j + ao))
 (List.length (S.stpL nq (fun j => tq (j + aq)) rp fl) + nl) fun j =>
 bif Nat.blt j (List.length (S.stpL nq (fun j => tq (j + aq)) rp fl)) then
 S.at' (S.stpL nq (fun j => tq (j + aq)) rp fl) j
 else tl (j - List.length (S.stpL nq (fun j => tq (j + aq)) rp fl) + al))))
 j))
 (fun j =>
 Prod.fst
 (Prod.snd
 (S.at'
 (Prod.fst
 (Prod.snd
 (S.histS nr (fun j => tr (j + ar)) (fun j => vr (j + ar))
 (fun j => gr (j + ar)) no (fun j => to (j + ao))
 (List.length (S.stpL nq (fun j => tq (j + aq)) rp fl) + nl) fun j =>
 bif Nat.blt j (List.length (S.stpL nq (fun j => tq (j + aq)) rp fl)) then
 S.at' (S.stpL nq (fun j => tq (j + aq)) rp fl) j
 else tl (j - List.length (S.stpL nq (fun j => tq (j + aq)) rp fl) + al))))
 j)))
 (fun j =>
 Prod.snd
 (Prod.snd
 (S.at'
 (Prod.fst
 (Prod.snd
 (S.histS nr (fun j => tr (j + ar)) (fun j => vr (j + ar))
 (fun j => gr (j + ar)) no (fun j => to (j + ao))
 (List.length (S.stpL nq (fun j => tq (j + aq)) rp fl) + nl) fun j =>
 bif Nat.blt j (List.length (S.stpL nq (fun j => tq (j + aq)) rp fl)) then
 S.at' (S.stpL nq (fun j => tq (j + aq)) rp fl) j
 else tl (j - List.length (S.stpL nq (fun j => tq (j + aq)) rp fl) + al))))
 j)))
 (List.length
 (Prod.snd
 (Prod.snd
 (S.histS nr (fun j => tr (j + ar)) (fun j => vr (j + ar)) (fun j => gr (j + ar))
 no (fun j => to (j + ao)) (List.length (S.stpL nq (fun j => tq (j + aq)) rp fl) + nl)
 fun j =>
 bif Nat.blt j (List.length (S.stpL nq (fun j => tq (j + aq)) rp fl)) then
 S.at' (S.stpL nq (fun j => tq (j + aq)) rp fl) j
 else tl (j - List.length (S.stpL nq (fun j => tq (j + aq)) rp fl) + al)))))
 fun j =>
 S.at'
 (Prod.snd
 (Prod.snd
 (S.histS nr (fun j => tr (j + ar)) (fun j => vr (j + ar)) (fun j => gr (j + ar))
 no (fun j => to (j + ao)) (List.length (S.stpL nq (fun j => tq (j + aq)) rp fl) + nl)
 fun j =>
 bif Nat.blt j (List.length (S.stpL nq (fun j => tq (j + aq)) rp fl)) then
 S.at' (S.stpL nq (fun j => tq (j + aq)) rp fl) j
 else tl (j - List.length (S.stpL nq (fun j => tq (j + aq)) rp fl) + al))))
 j), Prod.snd
 (S.fieldS
 (List.length
 (Prod.fst
 (Prod.snd
 (S.histS nr (fun j => tr (j + ar)) (fun j => vr (j + ar)) (fun j => gr (j + ar))
 no (fun j => to (j + ao)) (List.length (S.stpL nq (fun j => tq (j + aq)) rp fl) + nl)
 fun j =>
 bif Nat.blt j (List.length (S.stpL nq (fun j => tq (j + aq)) rp fl)) then
 S.at' (S.stpL nq (fun j => tq (j + aq)) rp fl) j
 else tl (j - List.length (S.stpL nq (fun j => tq (j + aq)) rp fl) + al)))))
 (fun j =>
 Prod.fst
 (S.at'
 (Prod.fst
 (Prod.snd
 (S.histS nr (fun j => tr (j + ar)) (fun j => vr (j + ar))
 (fun j => gr (j + ar)) no (fun j => to (j + ao))
 (List.length (S.stpL nq (fun j => tq (j + aq)) rp fl) + nl) fun j =>
 bif Nat.blt j (List.length (S.stpL nq (fun j => tq (j + aq)) rp fl)) then
 S.at' (S.stpL nq (fun j => tq (j + aq)) rp fl) j
 else tl (j - List.length (S.stpL nq (fun j => tq (j + aq)) rp fl) + al))))
 j))
 (fun j =>
 Prod.fst
 (Prod.snd
 (S.at'
 (Prod.fst
 (Prod.snd
 (S.histS nr (fun j => tr (j + ar)) (fun j => vr (j + ar))
 (fun j => gr (j + ar)) no (fun j => to (j + ao))
 (List.length (S.stpL nq (fun j => tq (j + aq)) rp fl) + nl) fun j =>
 bif Nat.blt j (List.length (S.stpL nq (fun j => tq (j + aq)) rp fl)) then
 S.at' (S.stpL nq (fun j => tq (j + aq)) rp fl) j
 else tl (j - List.length (S.stpL nq (fun j => tq (j + aq)) rp fl) + al))))
 j)))
 (fun j =>
 Prod.snd
 (Prod.snd
 (S.at'
 (Prod.fst
 (Prod.snd
 (S.histS nr (fun j => tr (j + ar)) (fun j => vr (j + ar))
 (fun j => gr (j + ar)) no (fun j => to (j + ao))
 (List.length (S.stpL nq (fun j => tq (j + aq)) rp fl) + nl) fun j =>
 bif Nat.blt j (List.length (S.stpL nq (fun j => tq (j + aq)) rp fl)) then
 S.at' (S.stpL nq (fun j => tq (j + aq)) rp fl) j
 else tl (j - List.length (S.stpL nq (fun j => tq (j + aq)) rp fl) + al))))
 j)))
 (List.length
 (Prod.snd
 (Prod.snd
 (S.histS nr (fun j => tr (j + ar)) (fun j => vr (j + ar)) (fun j => gr (j + ar))
 no (fun j => to (j + ao)) (List.length (S.stpL nq (fun j => tq (j + aq)) rp fl) + nl)
 fun j =>
 bif Nat.blt j (List.length (S.stpL nq (fun j => tq (j + aq)) rp fl)) then
 S.at' (S.stpL nq (fun j => tq (j + aq)) rp fl) j
 else tl (j - List.length (S.stpL nq (fun j => tq (j + aq)) rp fl) + al)))))
 fun j =>
 S.at'
 (Prod.snd
 (Prod.snd
 (S.histS nr (fun j => tr (j + ar)) (fun j => vr (j + ar)) (fun j => gr (j + ar))
 no (fun j => to (j + ao)) (List.length (S.stpL nq (fun j => tq (j + aq)) rp fl) + nl)
 fun j =>
 bif Nat.blt j (List.length (S.stpL nq (fun j => tq (j + aq)) rp fl)) then
 S.at' (S.stpL nq (fun j => tq (j + aq)) rp fl) j
 else tl (j - List.length (S.stpL nq (fun j => tq (j + aq)) rp fl) + al))))
 j))))
 else (none)))
 else (none))
 else (none))
 else (none))
 else (none))
 else (none))
 else (some (.inr ((0 : Int), (8 : Int)))))
 else (none)))
 else (none)))
 else (none) : Option (St130 ⊕ Rt130)) = some x) : Te130 cond Kst Kret ar nr mr tr vr gr ao no mo to cn aq nq mq tq rp fl al nl ml tl := by
  unfold Te130
  exact bif_split h
   (fun c0 h => bif_split h
   (fun c1 h => ret_at hR _ h (fun n => n) rfl rfl rfl (rn_tup ⟨(rn_int rfl), (rn_int rfl), trivial⟩) rfl (entl_bor (use_lo rfl) rfl rfl (entl_bor (use_lo rfl) rfl rfl (entl_bor (use_lo rfl) rfl rfl (entl_bor (use_lo rfl) rfl rfl entl_nil)))))
   (fun c1 h => bif_split h
   (fun c2 h => bif_split h
   (fun c3 h => ret_at hR _ h (fun n => n) rfl rfl rfl (rn_tup ⟨(rn_int rfl), (rn_int rfl), trivial⟩) rfl (entl_bor (use_lo rfl) rfl rfl (entl_bor (use_lo rfl) rfl rfl (entl_bor (use_lo rfl) rfl rfl (entl_bor (use_lo rfl) rfl rfl entl_nil)))))
   (fun c3 h => bif_split h
   (fun c4 h => bif_split h
   (fun c5 h => bif_split h
   (fun c6 h => bif_split h
   (fun c7 h => bif_split h
   (fun c8 h => bif_split h
   (fun c9 h => bif_split h
   (fun c10 h => bif_split h
   (fun c11 h => ret_at hR _ h (fun n => n) rfl rfl rfl (rn_tup ⟨(rn_int rfl), (rn_int rfl), trivial⟩) rfl (entl_bor (use_lo rfl) rfl rfl (entl_bor (use_lo rfl) rfl rfl (entl_bor (use_lo rfl) rfl rfl (entl_bor (use_lo rfl) rfl rfl entl_nil)))))
   (fun c11 h => bif_split h
   (fun c12 h => ret_at hR _ h (fun n => n) rfl rfl rfl (rn_tup ⟨(rn_int rfl), (rn_int rfl), trivial⟩) rfl (entl_bor (use_lo rfl) rfl rfl (entl_bor (use_lo rfl) rfl rfl (entl_bor (use_lo rfl) rfl rfl (entl_bor (use_lo rfl) rfl rfl entl_nil)))))
   (fun c12 h => no_some h)))
   (fun c10 h => no_some h))
   (fun c9 h => no_some h))
   (fun c8 h => no_some h))
   (fun c7 h => no_some h))
   (fun c6 h => no_some h))
   (fun c5 h => ret_at hR _ h (fun n => n) rfl rfl rfl (rn_tup ⟨(rn_int rfl), (rn_int rfl), trivial⟩) rfl (entl_bor (use_lo rfl) rfl rfl (entl_bor (use_lo rfl) rfl rfl (entl_bor (use_lo rfl) rfl rfl (entl_bor (use_lo rfl) rfl rfl entl_nil))))))
   (fun c4 h => no_some h)))
   (fun c2 h => no_some h)))
   (fun c0 h => no_some h)
theorem a130 (ar nr mr : Nat) (tr : Nat → Int) (vr : Nat → Int) (gr : Nat → Int) (ao no mo : Nat) (to : Nat → Bool) (cn : ByteArray) (aq nq mq : Nat) (tq : Nat → Int) (rp : Int) (fl : Int) (al nl ml : Nat) (tl : Nat → Int) {r : Rt130} (h : Goes ((q130 ar nr mr tr vr gr ao no mo to cn aq nq mq tq rp fl al nl ml tl)) ((p130 ar nr mr tr vr gr ao no mo to cn aq nq mq tq rp fl al nl ml tl)) r) : CallR Try.prog 30 [.agg [.loose ⟨0, 3, ar, 0⟩ nr, .loose ⟨1, 1, ao, 0⟩ no], .agg [.str cn, .loose ⟨2, 1, aq, 0⟩ nq, .int .i64 rp, .int .i64 fl], .loose ⟨3, 1, al, 0⟩ nl] [[(0, (false, .cols mr [.int .i64 tr, .int .i64 vr, .int .i64 gr])), (1, (false, .cols mo [.bool to])), (2, (false, .cols mq [.int .i64 tq])), (3, (false, .cols ml [.int .i64 tl]))]] 4 ((V130 ar nr mr tr vr gr ao no mo to cn aq nq mq tq rp fl al nl ml tl) r) ((fun r => [newL (4 + 1) ((N130 ar nr mr tr vr gr ao no mo to cn aq nq mq tq rp fl al nl ml tl) r) ++ [(0, (false, .cols mr [.int .i64 tr, .int .i64 vr, .int .i64 gr])), (1, (false, .cols mo [.bool to])), (2, (false, .cols mq [.int .i64 tq])), (3, (false, .cols ml [.int .i64 tl]))]]) r) 400 ∧ ∃ F, Try.prog.funcs[30]? = some F ∧ F.body.isSome = true ∧ (F.name == "runtime.NumGoroutine") = false := by
  refine dec_calls (f := 30) (lo := 4) (hi := 400) (H := [[(0, (false, .cols mr [.int .i64 tr, .int .i64 vr, .int .i64 gr])), (1, (false, .cols mo [.bool to])), (2, (false, .cols mq [.int .i64 tq])), (3, (false, .cols ml [.int .i64 tl]))]]) (args := [.agg [.loose ⟨0, 3, ar, 0⟩ nr, .loose ⟨1, 1, ao, 0⟩ no], .agg [.str cn, .loose ⟨2, 1, aq, 0⟩ nq, .int .i64 rp, .int .i64 fl], .loose ⟨3, 1, al, 0⟩ nl]) Try.envOk Try.mixed xFA_ok ((I130 ar nr mr tr vr gr ao no mo to cn aq nq mq tq rp fl al nl ml tl)) ((V130 ar nr mr tr vr gr ao no mo to cn aq nq mq tq rp fl al nl ml tl)) (fun r => [newL (4 + 1) ((N130 ar nr mr tr vr gr ao no mo to cn aq nq mq tq rp fl al nl ml tl) r) ++ [(0, (false, .cols mr [.int .i64 tr, .int .i64 vr, .int .i64 gr])), (1, (false, .cols mo [.bool to])), (2, (false, .cols mq [.int .i64 tq])), (3, (false, .cols ml [.int .i64 tl]))]]) (fn := mkFn Try.f30) (ts := []) (n := 400) rfl (by decide) (by simp) (names_of rfl) ?_ ?_ ?_ h
  · intro s; exact s.elim
  · intro Kst Kret x hS hR h
    exact Holds.eq (te130 cond Kst Kret ar nr mr tr vr gr ao no mo to cn aq nq mq tq rp fl al nl ml tl) (be130 ar nr mr tr vr gr ao no mo to cn aq nq mq tq rp fl al nl ml tl Kst Kret x hS hR h)
  · intro Kst Kret x hS hR s h; exact s.elim
noncomputable def k130 : Con := ⟨30, [.agg [.list [.int .i64, .int .i64, .int .i64], .list [.bool]], .agg [.plain (.str), .list [.int .i64], .plain (.int .i64), .plain (.int .i64)], .one (.list [.int .i64])], fun (x : ((Nat × Nat × Nat × (Nat → Int) × (Nat → Int) × (Nat → Int) × Unit) × (Nat × Nat × Nat × (Nat → Bool) × Unit) × Unit) × (ByteArray × (Nat × Nat × Nat × (Nat → Int) × Unit) × Int × Int × Unit) × (Nat × Nat × Nat × (Nat → Int) × Unit) × Unit) => (fun (ar nr mr : Nat) (tr : Nat → Int) (vr : Nat → Int) (gr : Nat → Int) (ao no mo : Nat) (to : Nat → Bool) (cn : ByteArray) (aq nq mq : Nat) (tq : Nat → Int) (rp : Int) (fl : Int) (al nl ml : Nat) (tl : Nat → Int) => decide ((ar + nr ≤ mr ∧ nr ≤ 1000000) ∧ (ao + no ≤ mo ∧ no ≤ 1000000) ∧ (aq + nq ≤ mq ∧ nq ≤ 1000000) ∧ (al + nl ≤ ml ∧ nl ≤ 1000000))) x.1.1.1 x.1.1.2.1 x.1.1.2.2.1 x.1.1.2.2.2.1 x.1.1.2.2.2.2.1 x.1.1.2.2.2.2.2.1 x.1.2.1.1 x.1.2.1.2.1 x.1.2.1.2.2.1 x.1.2.1.2.2.2.1 x.2.1.1 x.2.1.2.1.1 x.2.1.2.1.2.1 x.2.1.2.1.2.2.1 x.2.1.2.1.2.2.2.1 x.2.1.2.2.1 x.2.1.2.2.2.1 x.2.2.1.1 x.2.2.1.2.1 x.2.2.1.2.2.1 x.2.2.1.2.2.2.1, fun (x : ((Nat × Nat × Nat × (Nat → Int) × (Nat → Int) × (Nat → Int) × Unit) × (Nat × Nat × Nat × (Nat → Bool) × Unit) × Unit) × (ByteArray × (Nat × Nat × Nat × (Nat → Int) × Unit) × Int × Int × Unit) × (Nat × Nat × Nat × (Nat → Int) × Unit) × Unit) => (fun (ar nr mr : Nat) (tr : Nat → Int) (vr : Nat → Int) (gr : Nat → Int) (ao no mo : Nat) (to : Nat → Bool) (cn : ByteArray) (aq nq mq : Nat) (tq : Nat → Int) (rp : Int) (fl : Int) (al nl ml : Nat) (tl : Nat → Int) => (V130 ar nr mr tr vr gr ao no mo to cn aq nq mq tq rp fl al nl ml tl) (S.faS (S.botE (S.magE nr (fun j => tr (j + ar)) (fun j => vr (j + ar)) (fun j => gr (j + ar)) no) (S.cyE cn nq (fun j => tq (j + aq)) rp fl)) (S.setE nl (fun j => tl (j + al))) (S.erB (fun j => tr (j + ar)) (fun j => vr (j + ar)) (S.stpL nq (fun j => tq (j + aq)) rp fl).length (fun j => S.at' (S.stpL nq (fun j => tq (j + aq)) rp fl) j) 0 nr) (S.fldH nr (fun j => tr (j + ar)) (fun j => vr (j + ar)) (fun j => gr (j + ar)) (fun j => to (j + ao)) ((S.stpL nq (fun j => tq (j + aq)) rp fl).length + nl) (fun j => bif Nat.blt j (S.stpL nq (fun j => tq (j + aq)) rp fl).length then S.at' (S.stpL nq (fun j => tq (j + aq)) rp fl) j else tl (j - (S.stpL nq (fun j => tq (j + aq)) rp fl).length + al))))) x.1.1.1 x.1.1.2.1 x.1.1.2.2.1 x.1.1.2.2.2.1 x.1.1.2.2.2.2.1 x.1.1.2.2.2.2.2.1 x.1.2.1.1 x.1.2.1.2.1 x.1.2.1.2.2.1 x.1.2.1.2.2.2.1 x.2.1.1 x.2.1.2.1.1 x.2.1.2.1.2.1 x.2.1.2.1.2.2.1 x.2.1.2.1.2.2.2.1 x.2.1.2.2.1 x.2.1.2.2.2.1 x.2.2.1.1 x.2.2.1.2.1 x.2.2.1.2.2.1 x.2.2.1.2.2.2.1, fun (x : ((Nat × Nat × Nat × (Nat → Int) × (Nat → Int) × (Nat → Int) × Unit) × (Nat × Nat × Nat × (Nat → Bool) × Unit) × Unit) × (ByteArray × (Nat × Nat × Nat × (Nat → Int) × Unit) × Int × Int × Unit) × (Nat × Nat × Nat × (Nat → Int) × Unit) × Unit) => (fun (ar nr mr : Nat) (tr : Nat → Int) (vr : Nat → Int) (gr : Nat → Int) (ao no mo : Nat) (to : Nat → Bool) (cn : ByteArray) (aq nq mq : Nat) (tq : Nat → Int) (rp : Int) (fl : Int) (al nl ml : Nat) (tl : Nat → Int) => (N130 ar nr mr tr vr gr ao no mo to cn aq nq mq tq rp fl al nl ml tl) (S.faS (S.botE (S.magE nr (fun j => tr (j + ar)) (fun j => vr (j + ar)) (fun j => gr (j + ar)) no) (S.cyE cn nq (fun j => tq (j + aq)) rp fl)) (S.setE nl (fun j => tl (j + al))) (S.erB (fun j => tr (j + ar)) (fun j => vr (j + ar)) (S.stpL nq (fun j => tq (j + aq)) rp fl).length (fun j => S.at' (S.stpL nq (fun j => tq (j + aq)) rp fl) j) 0 nr) (S.fldH nr (fun j => tr (j + ar)) (fun j => vr (j + ar)) (fun j => gr (j + ar)) (fun j => to (j + ao)) ((S.stpL nq (fun j => tq (j + aq)) rp fl).length + nl) (fun j => bif Nat.blt j (S.stpL nq (fun j => tq (j + aq)) rp fl).length then S.at' (S.stpL nq (fun j => tq (j + aq)) rp fl) j else tl (j - (S.stpL nq (fun j => tq (j + aq)) rp fl).length + al))))) x.1.1.1 x.1.1.2.1 x.1.1.2.2.1 x.1.1.2.2.2.1 x.1.1.2.2.2.2.1 x.1.1.2.2.2.2.2.1 x.1.2.1.1 x.1.2.1.2.1 x.1.2.1.2.2.1 x.1.2.1.2.2.2.1 x.2.1.1 x.2.1.2.1.1 x.2.1.2.1.2.1 x.2.1.2.1.2.2.1 x.2.1.2.1.2.2.2.1 x.2.1.2.2.1 x.2.1.2.2.2.1 x.2.2.1.1 x.2.2.1.2.1 x.2.2.1.2.2.1 x.2.2.1.2.2.2.1, fun _ _ => .dead⟩
theorem s130 (ar nr mr : Nat) (tr : Nat → Int) (vr : Nat → Int) (gr : Nat → Int) (ao no mo : Nat) (to : Nat → Bool) (cn : ByteArray) (aq nq mq : Nat) (tq : Nat → Int) (rp : Int) (fl : Int) (al nl ml : Nat) (tl : Nat → Int) (hp : (ar + nr ≤ mr ∧ nr ≤ 1000000) ∧ (ao + no ≤ mo ∧ no ≤ 1000000) ∧ (aq + nq ≤ mq ∧ nq ≤ 1000000) ∧ (al + nl ≤ ml ∧ nl ≤ 1000000)) : Goes ((q130 ar nr mr tr vr gr ao no mo to cn aq nq mq tq rp fl al nl ml tl)) ((p130 ar nr mr tr vr gr ao no mo to cn aq nq mq tq rp fl al nl ml tl)) (S.faS (S.botE (S.magE nr (fun j => tr (j + ar)) (fun j => vr (j + ar)) (fun j => gr (j + ar)) no) (S.cyE cn nq (fun j => tq (j + aq)) rp fl)) (S.setE nl (fun j => tl (j + al))) (S.erB (fun j => tr (j + ar)) (fun j => vr (j + ar)) (S.stpL nq (fun j => tq (j + aq)) rp fl).length (fun j => S.at' (S.stpL nq (fun j => tq (j + aq)) rp fl) j) 0 nr) (S.fldH nr (fun j => tr (j + ar)) (fun j => vr (j + ar)) (fun j => gr (j + ar)) (fun j => to (j + ao)) ((S.stpL nq (fun j => tq (j + aq)) rp fl).length + nl) (fun j => bif Nat.blt j (S.stpL nq (fun j => tq (j + aq)) rp fl).length then S.at' (S.stpL nq (fun j => tq (j + aq)) rp fl) j else tl (j - (S.stpL nq (fun j => tq (j + aq)) rp fl).length + al)))) := by
  obtain ⟨⟨hp1, hp2⟩, ⟨hp5, hp6⟩, ⟨hp3, hp4⟩, hp7, hp8⟩ := hp
  unfold S.faS
  by_cases hm : (S.magE nr (fun j => tr (j + ar)) (fun j => vr (j + ar)) (fun j => gr (j + ar)) no) = 0
  · by_cases hy : (S.cyE cn nq (fun j => tq (j + aq)) rp fl) = 0
    · have hb : S.botE (S.magE nr (fun j => tr (j + ar)) (fun j => vr (j + ar)) (fun j => gr (j + ar)) no) (S.cyE cn nq (fun j => tq (j + aq)) rp fl) = 0 := by unfold S.botE; rw [if_pos hm]; exact hy
      rw [if_pos hb]
      by_cases hs : (S.setE nl (fun j => tl (j + al))) = 0
      · have hset := set_0.mp hs
        have hst := stp_in hy
        have hc := cy_ok hy
        have hin : ∀ j, j < (S.stpL nq (fun j => tq (j + aq)) rp fl).length + nl → -1099511627776 ≤ (fun j => bif Nat.blt j (S.stpL nq (fun j => tq (j + aq)) rp fl).length then S.at' (S.stpL nq (fun j => tq (j + aq)) rp fl) j else tl (j - (S.stpL nq (fun j => tq (j + aq)) rp fl).length + al)) j ∧ (fun j => bif Nat.blt j (S.stpL nq (fun j => tq (j + aq)) rp fl).length then S.at' (S.stpL nq (fun j => tq (j + aq)) rp fl) j else tl (j - (S.stpL nq (fun j => tq (j + aq)) rp fl).length + al)) j ≤ 1099511627776 := fun j hj => by
          by_cases h1 : j < (S.stpL nq (fun j => tq (j + aq)) rp fl).length
          · dsimp only
            rw [show Nat.blt j (S.stpL nq (fun j => tq (j + aq)) rp fl).length = true by rw [Nat.blt_eq]; exact h1, cond_true]
            exact hst.2.2 j h1
          · dsimp only
            rw [show Nat.blt j (S.stpL nq (fun j => tq (j + aq)) rp fl).length = false by cases hb : Nat.blt j (S.stpL nq (fun j => tq (j + aq)) rp fl).length; rfl; exact absurd (lt_ok hb) h1, cond_false]
            exact hset.2 _ (by omega)
        have hh := hist_in (o := (fun j => to (j + ao))) hm (show (S.stpL nq (fun j => tq (j + aq)) rp fl).length + nl ≤ 1000 by omega) hin
        have hf := field_in (o := (fun j => to (j + ao))) (nl := (S.stpL nq (fun j => tq (j + aq)) rp fl).length + nl) (t := (fun j => bif Nat.blt j (S.stpL nq (fun j => tq (j + aq)) rp fl).length then S.at' (S.stpL nq (fun j => tq (j + aq)) rp fl) j else tl (j - (S.stpL nq (fun j => tq (j + aq)) rp fl).length + al))) hm
        have hbe : (S.behS 0 nq (fun j => tq (j + aq)) rp fl nl (fun j => tl (j + al))).2.2.2.2 = 0 := by unfold S.behS; rw [if_pos rfl, if_pos hs]
        rw [if_pos hs]
        unfold p130
        simp only [hm, hy, hb, hs, hbe, hh, hf, mkl_len]
        have hsu : ∀ A : Bool, S.suiS 0 A = (A, 0) := fun A => rfl
        have hb0 : S.botE 0 0 = 0 := rfl
        simp only [hb0, hsu]
        clear hh hf hin
        generalize S.erB (fun j => tr (j + ar)) (fun j => vr (j + ar)) (S.stpL nq (fun j => tq (j + aq)) rp fl).length (fun j => S.at' (S.stpL nq (fun j => tq (j + aq)) rp fl) j) 0 nr = A at *
        have hl1 : (S.stpL nq (fun j => tq (j + aq)) rp fl).length ≤ 181 := hst.1
        have hv := mag_ok hm
        generalize (S.fldH nr (fun j => tr (j + ar)) (fun j => vr (j + ar)) (fun j => gr (j + ar)) (fun j => to (j + ao)) ((S.stpL nq (fun j => tq (j + aq)) rp fl).length + nl) (fun j => bif Nat.blt j (S.stpL nq (fun j => tq (j + aq)) rp fl).length then S.at' (S.stpL nq (fun j => tq (j + aq)) rp fl) j else tl (j - (S.stpL nq (fun j => tq (j + aq)) rp fl).length + al))) = X at *
        generalize (S.stpL nq (fun j => tq (j + aq)) rp fl) = L at *
        cases A
        all_goals
         show Goes _ _ _
         repeat' first
           | with_reducible refine goes_if (fun h => ?_) (fun h => ?_) <;> (try simp only [lim64, imp_false, decide_eq_true_eq, decide_eq_false_iff_not, Int.toNat_natCast, toNat_pred, toNat_succ, Option.getD_some, Option.getD_none, Bool.not_eq_true', Bool.not_eq_false', Bool.and_eq_true, Bool.or_eq_true, Bool.and_eq_false_iff, Bool.or_eq_false_iff, bne_iff_ne, beq_iff_eq, bne_eq_false_iff_eq, beq_eq_false_iff_ne, ne_eq, not_and, Int.not_le, Int.not_lt, ge_iff_le, gt_iff_lt, Nat.not_lt, Nat.not_le, Bool.not_eq_true, Bool.not_eq_false, Bool.true_eq_false, Bool.false_eq_true, not_false_eq_true, not_true_eq_false] at h)
           | exact goes_none.mpr (by omega)
         all_goals first | (exfalso; omega) | exact goes_inr.mpr rfl | (exfalso; simp_all; done)
      · rw [if_neg hs]
        have hbe : (S.behS 0 nq (fun j => tq (j + aq)) rp fl nl (fun j => tl (j + al))).2.2.2.2 = (S.setE nl (fun j => tl (j + al))) := by unfold S.behS; rw [if_pos rfl, if_neg hs]
        unfold p130
        simp only [hm, hy, hbe]
        have hb0 : S.botE 0 0 = 0 := rfl
        simp only [hb0]
        generalize (S.setE nl (fun j => tl (j + al))) = e at *
        show Goes _ _ _
        repeat' first
          | with_reducible refine goes_if (fun h => ?_) (fun h => ?_) <;> (try simp only [lim64, imp_false, decide_eq_true_eq, decide_eq_false_iff_not, Int.toNat_natCast, toNat_pred, toNat_succ, Option.getD_some, Option.getD_none, Bool.not_eq_true', Bool.not_eq_false', Bool.and_eq_true, Bool.or_eq_true, Bool.and_eq_false_iff, Bool.or_eq_false_iff, bne_iff_ne, beq_iff_eq, bne_eq_false_iff_eq, beq_eq_false_iff_ne, ne_eq, not_and, Int.not_le, Int.not_lt, ge_iff_le, gt_iff_lt, Nat.not_lt, Nat.not_le, Bool.not_eq_true, Bool.not_eq_false, Bool.true_eq_false, Bool.false_eq_true, not_false_eq_true, not_true_eq_false] at h)
          | exact goes_none.mpr (by omega)
        all_goals first | (exfalso; omega) | exact goes_inr.mpr rfl | (exfalso; simp_all; done)
    · have hb : S.botE (S.magE nr (fun j => tr (j + ar)) (fun j => vr (j + ar)) (fun j => gr (j + ar)) no) (S.cyE cn nq (fun j => tq (j + aq)) rp fl) ≠ 0 := by unfold S.botE; rw [if_pos hm]; exact hy
      rw [if_neg hb]
      unfold p130
      generalize S.botE (S.magE nr (fun j => tr (j + ar)) (fun j => vr (j + ar)) (fun j => gr (j + ar)) no) (S.cyE cn nq (fun j => tq (j + aq)) rp fl) = e at *
      show Goes _ _ _
      repeat' first
        | with_reducible refine goes_if (fun h => ?_) (fun h => ?_) <;> (try simp only [lim64, imp_false, decide_eq_true_eq, decide_eq_false_iff_not, Int.toNat_natCast, toNat_pred, toNat_succ, Option.getD_some, Option.getD_none, Bool.not_eq_true', Bool.not_eq_false', Bool.and_eq_true, Bool.or_eq_true, Bool.and_eq_false_iff, Bool.or_eq_false_iff, bne_iff_ne, beq_iff_eq, bne_eq_false_iff_eq, beq_eq_false_iff_ne, ne_eq, not_and, Int.not_le, Int.not_lt, ge_iff_le, gt_iff_lt, Nat.not_lt, Nat.not_le, Bool.not_eq_true, Bool.not_eq_false, Bool.true_eq_false, Bool.false_eq_true, not_false_eq_true, not_true_eq_false] at h)
        | exact goes_none.mpr (by omega)
      all_goals first | (exfalso; omega) | exact goes_inr.mpr rfl | (exfalso; simp_all; done)
  · have hb : S.botE (S.magE nr (fun j => tr (j + ar)) (fun j => vr (j + ar)) (fun j => gr (j + ar)) no) (S.cyE cn nq (fun j => tq (j + aq)) rp fl) ≠ 0 := by unfold S.botE; rw [if_neg hm]; exact hm
    rw [if_neg hb]
    unfold p130
    generalize S.botE (S.magE nr (fun j => tr (j + ar)) (fun j => vr (j + ar)) (fun j => gr (j + ar)) no) (S.cyE cn nq (fun j => tq (j + aq)) rp fl) = e at *
    show Goes _ _ _
    repeat' first
      | with_reducible refine goes_if (fun h => ?_) (fun h => ?_) <;> (try simp only [lim64, imp_false, decide_eq_true_eq, decide_eq_false_iff_not, Int.toNat_natCast, toNat_pred, toNat_succ, Option.getD_some, Option.getD_none, Bool.not_eq_true', Bool.not_eq_false', Bool.and_eq_true, Bool.or_eq_true, Bool.and_eq_false_iff, Bool.or_eq_false_iff, bne_iff_ne, beq_iff_eq, bne_eq_false_iff_eq, beq_eq_false_iff_ne, ne_eq, not_and, Int.not_le, Int.not_lt, ge_iff_le, gt_iff_lt, Nat.not_lt, Nat.not_le, Bool.not_eq_true, Bool.not_eq_false, Bool.true_eq_false, Bool.false_eq_true, not_false_eq_true, not_true_eq_false] at h)
      | exact goes_none.mpr (by omega)
    all_goals first | (exfalso; omega) | exact goes_inr.mpr rfl | (exfalso; simp_all; done)
theorem k130_ok : k130.ok Try.prog := by
  intro x hx
  obtain ⟨⟨⟨ar, nr, mr, tr, vr, gr, _⟩, ⟨ao, no, mo, to, _⟩, _⟩, ⟨cn, ⟨aq, nq, mq, tq, _⟩, rp, fl, _⟩, ⟨al, nl, ml, tl, _⟩, _⟩ := x
  obtain ⟨h1, h2⟩ := a130 ar nr mr tr vr gr ao no mo to cn aq nq mq tq rp fl al nl ml tl (s130 ar nr mr tr vr gr ao no mo to cn aq nq mq tq rp fl al nl ml tl (of_dec hx rfl))
  exact ⟨⟨400, (by decide : 4 + 1 + 0 ≤ 400), h1⟩, h2⟩
abbrev St119 := Empty
abbrev Rt119 := Bool
noncomputable def V119 (ar nr mr : Nat) (tr : Nat → Int) (vr : Nat → Int) (gr : Nat → Int) (ao no mo : Nat) (to : Nat → Bool) (r : Rt119) : PV := PV.bool r
noncomputable def N119 (ar nr mr : Nat) (tr : Nat → Int) (vr : Nat → Int) (gr : Nat → Int) (ao no mo : Nat) (to : Nat → Bool) (r : Rt119) : List Blk := []
noncomputable def I119 (ar nr mr : Nat) (tr : Nat → Int) (vr : Nat → Int) (gr : Nat → Int) (ao no mo : Nat) (to : Nat → Bool) : St119 → Hd := fun s => s.elim
noncomputable def q119 (ar nr mr : Nat) (tr : Nat → Int) (vr : Nat → Int) (gr : Nat → Int) (ao no mo : Nat) (to : Nat → Bool) : St119 → Option (St119 ⊕ Rt119) := fun s => s.elim
noncomputable def p119 (ar nr mr : Nat) (tr : Nat → Int) (vr : Nat → Int) (gr : Nat → Int) (ao no mo : Nat) (to : Nat → Bool) : Option (St119 ⊕ Rt119) := bif (decide ((↑nr : Int) ≤ (45 : Int)))
 then (bif (decide ((↑no : Int) ≤ (50 : Int)))
 then (some (.inr (true)))
 else (some (.inr (false))))
 else (some (.inr (false)))
noncomputable def Te119 (test : Bool → Prop → Prop → Prop) (Kst : KS) (Kret : KR) (ar nr mr : Nat) (tr : Nat → Int) (vr : Nat → Int) (gr : Nat → Int) (ao no mo : Nat) (to : Nat → Bool) : Prop :=
  test (decide ((↑nr : Int) ≤ (45 : Int)))
 (test (decide ((↑no : Int) ≤ (50 : Int)))
 (Kret (PV.tf true) ([[(1, false, Blk.cols mo [Col.bool to]),
 (0, false,
 Blk.cols mr
 [Col.int IntKind.i64 tr, Col.int IntKind.i64 vr, Col.int IntKind.i64 gr])]]) (3))
 (Kret (PV.tf false) ([[(1, false, Blk.cols mo [Col.bool to]),
 (0, false,
 Blk.cols mr
 [Col.int IntKind.i64 tr, Col.int IntKind.i64 vr, Col.int IntKind.i64 gr])]]) (3)))
 (Kret (PV.tf false) ([[(1, false, Blk.cols mo [Col.bool to]),
 (0, false,
 Blk.cols mr
 [Col.int IntKind.i64 tr, Col.int IntKind.i64 vr, Col.int IntKind.i64 gr])]]) (3))
theorem te119 (test : Bool → Prop → Prop → Prop) (Kst : KS) (Kret : KR) (ar nr mr : Nat) (tr : Nat → Int) (vr : Nat → Int) (gr : Nat → Int) (ao no mo : Nat) (to : Nat → Bool) : run test Try.env true noX true 400 ⟨19, [.cd (mkFn Try.f19).body], argT 0 [.agg [.loose ⟨0, 3, ar, 0⟩ nr, .loose ⟨1, 1, ao, 0⟩ no]], [[], [(0, (false, .cols mr [.int .i64 tr, .int .i64 vr, .int .i64 gr])), (1, (false, .cols mo [.bool to]))]], 2⟩ (proj 2 [] Kst Kret) =
  Te119 test Kst Kret ar nr mr tr vr gr ao no mo to := by kernel_rfl
theorem be119 (ar nr mr : Nat) (tr : Nat → Int) (vr : Nat → Int) (gr : Nat → Int) (ao no mo : Nat) (to : Nat → Bool) (Kst : KS) (Kret : KR) (x : St119 ⊕ Rt119) (hS : HS 2 400 ((I119 ar nr mr tr vr gr ao no mo to)) Kst x) (hR : HR 2 400 ((V119 ar nr mr tr vr gr ao no mo to)) (fun r => [newL (2 + 1) ((N119 ar nr mr tr vr gr ao no mo to) r) ++ [(0, (false, .cols mr [.int .i64 tr, .int .i64 vr, .int .i64 gr])), (1, (false, .cols mo [.bool to]))]]) Kret x) (h : (bif (decide ((↑nr : Int) ≤ (45 : Int)))
 then (bif (decide ((↑no : Int) ≤ (50 : Int)))
 then (some (.inr (true)))
 else (some (.inr (false))))
 else (some (.inr (false))) : Option (St119 ⊕ Rt119)) = some x) : Te119 cond Kst Kret ar nr mr tr vr gr ao no mo to := by
  unfold Te119
  exact bif_split h
   (fun c0 h => bif_split h
   (fun c1 h => ret_at hR _ h (fun n => n) rfl rfl rfl (rn_bool_tf rfl) rfl (entl_bor (use_lo rfl) rfl rfl (entl_bor (use_lo rfl) rfl rfl entl_nil)))
   (fun c1 h => ret_at hR _ h (fun n => n) rfl rfl rfl (rn_bool_tf rfl) rfl (entl_bor (use_lo rfl) rfl rfl (entl_bor (use_lo rfl) rfl rfl entl_nil))))
   (fun c0 h => ret_at hR _ h (fun n => n) rfl rfl rfl (rn_bool_tf rfl) rfl (entl_bor (use_lo rfl) rfl rfl (entl_bor (use_lo rfl) rfl rfl entl_nil)))
theorem a119 (ar nr mr : Nat) (tr : Nat → Int) (vr : Nat → Int) (gr : Nat → Int) (ao no mo : Nat) (to : Nat → Bool) {r : Rt119} (h : Goes ((q119 ar nr mr tr vr gr ao no mo to)) ((p119 ar nr mr tr vr gr ao no mo to)) r) : CallR Try.prog 19 [.agg [.loose ⟨0, 3, ar, 0⟩ nr, .loose ⟨1, 1, ao, 0⟩ no]] [[(0, (false, .cols mr [.int .i64 tr, .int .i64 vr, .int .i64 gr])), (1, (false, .cols mo [.bool to]))]] 2 ((V119 ar nr mr tr vr gr ao no mo to) r) ((fun r => [newL (2 + 1) ((N119 ar nr mr tr vr gr ao no mo to) r) ++ [(0, (false, .cols mr [.int .i64 tr, .int .i64 vr, .int .i64 gr])), (1, (false, .cols mo [.bool to]))]]) r) 400 ∧ ∃ F, Try.prog.funcs[19]? = some F ∧ F.body.isSome = true ∧ (F.name == "runtime.NumGoroutine") = false := by
  refine dec_calls (f := 19) (lo := 2) (hi := 400) (H := [[(0, (false, .cols mr [.int .i64 tr, .int .i64 vr, .int .i64 gr])), (1, (false, .cols mo [.bool to]))]]) (args := [.agg [.loose ⟨0, 3, ar, 0⟩ nr, .loose ⟨1, 1, ao, 0⟩ no]]) Try.envOk Try.mixed noX_ok ((I119 ar nr mr tr vr gr ao no mo to)) ((V119 ar nr mr tr vr gr ao no mo to)) (fun r => [newL (2 + 1) ((N119 ar nr mr tr vr gr ao no mo to) r) ++ [(0, (false, .cols mr [.int .i64 tr, .int .i64 vr, .int .i64 gr])), (1, (false, .cols mo [.bool to]))]]) (fn := mkFn Try.f19) (ts := []) (n := 400) rfl (by decide) (by simp) (names_of rfl) ?_ ?_ ?_ h
  · intro s; exact s.elim
  · intro Kst Kret x hS hR h
    exact Holds.eq (te119 cond Kst Kret ar nr mr tr vr gr ao no mo to) (be119 ar nr mr tr vr gr ao no mo to Kst Kret x hS hR h)
  · intro Kst Kret x hS hR s h; exact s.elim
noncomputable def k119 : Con := ⟨19, [.agg [.list [.int .i64, .int .i64, .int .i64], .list [.bool]]], fun (x : ((Nat × Nat × Nat × (Nat → Int) × (Nat → Int) × (Nat → Int) × Unit) × (Nat × Nat × Nat × (Nat → Bool) × Unit) × Unit) × Unit) => (fun (ar nr mr : Nat) (tr : Nat → Int) (vr : Nat → Int) (gr : Nat → Int) (ao no mo : Nat) (to : Nat → Bool) => decide (True)) x.1.1.1 x.1.1.2.1 x.1.1.2.2.1 x.1.1.2.2.2.1 x.1.1.2.2.2.2.1 x.1.1.2.2.2.2.2.1 x.1.2.1.1 x.1.2.1.2.1 x.1.2.1.2.2.1 x.1.2.1.2.2.2.1, fun (x : ((Nat × Nat × Nat × (Nat → Int) × (Nat → Int) × (Nat → Int) × Unit) × (Nat × Nat × Nat × (Nat → Bool) × Unit) × Unit) × Unit) => (fun (ar nr mr : Nat) (tr : Nat → Int) (vr : Nat → Int) (gr : Nat → Int) (ao no mo : Nat) (to : Nat → Bool) => (V119 ar nr mr tr vr gr ao no mo to) (decide (nr ≤ 45 ∧ no ≤ 50))) x.1.1.1 x.1.1.2.1 x.1.1.2.2.1 x.1.1.2.2.2.1 x.1.1.2.2.2.2.1 x.1.1.2.2.2.2.2.1 x.1.2.1.1 x.1.2.1.2.1 x.1.2.1.2.2.1 x.1.2.1.2.2.2.1, fun (x : ((Nat × Nat × Nat × (Nat → Int) × (Nat → Int) × (Nat → Int) × Unit) × (Nat × Nat × Nat × (Nat → Bool) × Unit) × Unit) × Unit) => (fun (ar nr mr : Nat) (tr : Nat → Int) (vr : Nat → Int) (gr : Nat → Int) (ao no mo : Nat) (to : Nat → Bool) => (N119 ar nr mr tr vr gr ao no mo to) (decide (nr ≤ 45 ∧ no ≤ 50))) x.1.1.1 x.1.1.2.1 x.1.1.2.2.1 x.1.1.2.2.2.1 x.1.1.2.2.2.2.1 x.1.1.2.2.2.2.2.1 x.1.2.1.1 x.1.2.1.2.1 x.1.2.1.2.2.1 x.1.2.1.2.2.2.1, fun _ _ => .dead⟩
theorem s119 (ar nr mr : Nat) (tr : Nat → Int) (vr : Nat → Int) (gr : Nat → Int) (ao no mo : Nat) (to : Nat → Bool) (hp : True) : Goes ((q119 ar nr mr tr vr gr ao no mo to)) ((p119 ar nr mr tr vr gr ao no mo to)) (decide (nr ≤ 45 ∧ no ≤ 50)) := by
  show Goes _ _ _
  unfold p119
  repeat' first
    | with_reducible refine goes_if (fun h => ?_) (fun h => ?_) <;> (try simp only [lim64, imp_false, decide_eq_true_eq, decide_eq_false_iff_not, Int.toNat_natCast, toNat_pred, toNat_succ, Option.getD_some, Option.getD_none, Bool.not_eq_true', Bool.not_eq_false', Bool.and_eq_true, Bool.or_eq_true, Bool.and_eq_false_iff, Bool.or_eq_false_iff, bne_iff_ne, beq_iff_eq, bne_eq_false_iff_eq, beq_eq_false_iff_ne, ne_eq, not_and, Int.not_le, Int.not_lt, ge_iff_le, gt_iff_lt, Nat.not_lt, Nat.not_le, Bool.not_eq_true, Bool.not_eq_false, Bool.true_eq_false, Bool.false_eq_true, not_false_eq_true, not_true_eq_false] at h)
    | exact goes_none.mpr (by omega)
  all_goals first | (exfalso; omega) | (refine goes_inr.mpr ?_; first | exact (decide_eq_true (by omega)).symm | exact (decide_eq_false (by omega)).symm)
theorem k119_ok : k119.ok Try.prog := by
  intro x hx
  obtain ⟨⟨⟨ar, nr, mr, tr, vr, gr, _⟩, ⟨ao, no, mo, to, _⟩, _⟩, _⟩ := x
  obtain ⟨h1, h2⟩ := a119 ar nr mr tr vr gr ao no mo to (s119 ar nr mr tr vr gr ao no mo to (of_dec hx rfl))
  exact ⟨⟨400, (by decide : 2 + 1 + 0 ≤ 400), h1⟩, h2⟩
noncomputable def xC6 (test : Bool → Prop → Prop → Prop) : Ext := consX test [k111, k112, k114, k119, k129, k130, k25]
theorem xC6_ok : ExtOk Try.prog (xC6 cond) := consX_ok ⟨k111_ok, k112_ok, k114_ok, k119_ok, k129_ok, k130_ok, k25_ok, trivial⟩
theorem curE_congr {e : Int} {t t' : Nat → Int} : ∀ {k i n : Nat}, i + k ≤ n → (∀ j, j < n → t j = t' j) → S.curE e t i k = S.curE e t' i k
  | 0, _, _, _, _ => rfl
  | k + 1, i, n, hn, h => by
    simp only [S.curE]
    rw [h i (by omega), curE_congr (k := k) (i := i + 1) (n := n) (by omega) h]
    by_cases h0 : 0 < i
    · rw [h (i - 1) (by omega)]
    · simp only [h0, false_and, if_false]
theorem cy_mkl {cn : ByteArray} {n : Nat} {t : Nat → Int} {rp fl : Int} : S.cyE cn n (fun j => S.at' (S.mkl n t) j) rp fl = S.cyE cn n t rp fl := by
  unfold S.cyE
  by_cases h : n < 2
  · simp only [h, if_true]
  · simp only [at_mkl (show n - 1 < n by omega), curE_congr (n := n) (t' := t) (show 0 + n ≤ n by omega) fun j hj => at_mkl hj]
theorem stp_mkl {n : Nat} {t : Nat → Int} {rp fl : Int} : S.stpL n (fun j => S.at' (S.mkl n t) j) rp fl = S.stpL n t rp fl := by
  unfold S.stpL
  rw [mkl_congr fun j hj => ?_]
  have : 0 < n := by
    rcases Nat.eq_zero_or_pos n with h | h
    · rw [h, Nat.zero_mul] at hj; omega
    · exact h
  exact at_mkl (Nat.mod_lt _ this)
theorem few_n {cn : ByteArray} {n l : Nat} (h : S.fewC cn n l = true) : n ≤ 25 ∧ l ≤ 510 := by have := of_decide_eq_true h; omega
abbrev St106 := Empty
abbrev Rt106 := Bool
noncomputable def V106 (ar nr mr : Nat) (tr : Nat → Int) (vr : Nat → Int) (gr : Nat → Int) (ao no mo : Nat) (to : Nat → Bool) (cn : ByteArray) (aq nq mq : Nat) (tq : Nat → Int) (rp : Int) (fl : Int) (al nl ml : Nat) (tl : Nat → Int) (r : Rt106) : PV := PV.bool r
noncomputable def N106 (ar nr mr : Nat) (tr : Nat → Int) (vr : Nat → Int) (gr : Nat → Int) (ao no mo : Nat) (to : Nat → Bool) (cn : ByteArray) (aq nq mq : Nat) (tq : Nat → Int) (rp : Int) (fl : Int) (al nl ml : Nat) (tl : Nat → Int) (r : Rt106) : List Blk := []
noncomputable def I106 (ar nr mr : Nat) (tr : Nat → Int) (vr : Nat → Int) (gr : Nat → Int) (ao no mo : Nat) (to : Nat → Bool) (cn : ByteArray) (aq nq mq : Nat) (tq : Nat → Int) (rp : Int) (fl : Int) (al nl ml : Nat) (tl : Nat → Int) : St106 → Hd := fun s => s.elim
noncomputable def q106 (ar nr mr : Nat) (tr : Nat → Int) (vr : Nat → Int) (gr : Nat → Int) (ao no mo : Nat) (to : Nat → Bool) (cn : ByteArray) (aq nq mq : Nat) (tq : Nat → Int) (rp : Int) (fl : Int) (al nl ml : Nat) (tl : Nat → Int) : St106 → Option (St106 ⊕ Rt106) := fun s => s.elim
noncomputable def p106 (ar nr mr : Nat) (tr : Nat → Int) (vr : Nat → Int) (gr : Nat → Int) (ao no mo : Nat) (to : Nat → Bool) (cn : ByteArray) (aq nq mq : Nat) (tq : Nat → Int) (rp : Int) (fl : Int) (al nl ml : Nat) (tl : Nat → Int) : Option (St106 ⊕ Rt106) := bif (S.fewC cn nq nl)
 then (bif (decide (nr ≤ 45 ∧ no ≤ 50))
 then (bif (decide (aq + nq ≤ mq ∧ nq ≤ 1000000))
 then (bif (decide (al + nl ≤ ml ∧ nl ≤ 1000000))
 then (bif (decide
 ((ar + nr ≤ mr ∧ nr ≤ 1000000) ∧
 (ao + no ≤ mo ∧ no ≤ 1000000) ∧
 (0 + List.length (S.mkl nq fun j => tq (j + aq)) ≤
 List.length (S.mkl nq fun j => tq (j + aq)) ∧
 List.length (S.mkl nq fun j => tq (j + aq)) ≤ 1000000) ∧
 0 + nl ≤ nl ∧ nl ≤ 1000000))
 then (bif (decide
 ((ar + nr ≤ mr ∧ nr ≤ 1000000) ∧
 (ao + no ≤ mo ∧ no ≤ 1000000) ∧ (aq + nq ≤ mq ∧ nq ≤ 1000000) ∧ al + nl ≤ ml ∧ nl ≤ 1000000))
 then (bif (Prod.fst
 (S.faS
 (S.botE
 (S.magE nr (fun j => tr (j + ar)) (fun j => vr (j + ar)) (fun j => gr (j + ar))
 no)
 (S.cyE cn (List.length (S.mkl nq fun j => tq (j + aq)))
 (fun j => S.at' (S.mkl nq fun j => tq (j + aq)) j) rp fl))
 (S.setE nl fun j => tl (j + al))
 (S.erB (fun j => tr (j + ar)) (fun j => vr (j + ar))
 (List.length
 (S.stpL (List.length (S.mkl nq fun j => tq (j + aq)))
 (fun j => S.at' (S.mkl nq fun j => tq (j + aq)) j) rp fl))
 (fun j =>
 S.at'
 (S.stpL (List.length (S.mkl nq fun j => tq (j + aq)))
 (fun j => S.at' (S.mkl nq fun j => tq (j + aq)) j) rp fl)
 j)
 (0) nr)
 (S.fldH nr (fun j => tr (j + ar)) (fun j => vr (j + ar)) (fun j => gr (j + ar))
 (fun j => to (j + ao))
 (List.length
 (S.stpL (List.length (S.mkl nq fun j => tq (j + aq)))
 (fun j => S.at' (S.mkl nq fun j => tq (j + aq)) j) rp fl) +
 nl)
 fun j =>
 bif
 Nat.blt j
 (List.length
 (S.stpL (List.length (S.mkl nq fun j => tq (j + aq)))
 (fun j => S.at' (S.mkl nq fun j => tq (j + aq)) j) rp fl)) then
 S.at'
 (S.stpL (List.length (S.mkl nq fun j => tq (j + aq)))
 (fun j => S.at' (S.mkl nq fun j => tq (j + aq)) j) rp fl)
 j
 else
 tl
 (j -
 List.length
 (S.stpL (List.length (S.mkl nq fun j => tq (j + aq)))
 (fun j => S.at' (S.mkl nq fun j => tq (j + aq)) j) rp fl) +
 al))) ==
 Prod.fst
 (S.faS
 (S.botE
 (S.magE nr (fun j => tr (j + ar)) (fun j => vr (j + ar)) (fun j => gr (j + ar))
 no)
 (S.cyE cn nq (fun j => tq (j + aq)) rp fl))
 (S.setE nl fun j => tl (j + al))
 (S.erB (fun j => tr (j + ar)) (fun j => vr (j + ar))
 (List.length (S.stpL nq (fun j => tq (j + aq)) rp fl))
 (fun j => S.at' (S.stpL nq (fun j => tq (j + aq)) rp fl) j) (0) nr)
 (S.fldH nr (fun j => tr (j + ar)) (fun j => vr (j + ar)) (fun j => gr (j + ar))
 (fun j => to (j + ao)) (List.length (S.stpL nq (fun j => tq (j + aq)) rp fl) + nl)
 fun j =>
 bif Nat.blt j (List.length (S.stpL nq (fun j => tq (j + aq)) rp fl)) then
 S.at' (S.stpL nq (fun j => tq (j + aq)) rp fl) j
 else tl (j - List.length (S.stpL nq (fun j => tq (j + aq)) rp fl) + al))))
 then (bif (Prod.snd
 (S.faS
 (S.botE
 (S.magE nr (fun j => tr (j + ar)) (fun j => vr (j + ar)) (fun j => gr (j + ar))
 no)
 (S.cyE cn (List.length (S.mkl nq fun j => tq (j + aq)))
 (fun j => S.at' (S.mkl nq fun j => tq (j + aq)) j) rp fl))
 (S.setE nl fun j => tl (j + al))
 (S.erB (fun j => tr (j + ar)) (fun j => vr (j + ar))
 (List.length
 (S.stpL (List.length (S.mkl nq fun j => tq (j + aq)))
 (fun j => S.at' (S.mkl nq fun j => tq (j + aq)) j) rp fl))
 (fun j =>
 S.at'
 (S.stpL (List.length (S.mkl nq fun j => tq (j + aq)))
 (fun j => S.at' (S.mkl nq fun j => tq (j + aq)) j) rp fl)
 j)
 (0) nr)
 (S.fldH nr (fun j => tr (j + ar)) (fun j => vr (j + ar)) (fun j => gr (j + ar))
 (fun j => to (j + ao))
 (List.length
 (S.stpL (List.length (S.mkl nq fun j => tq (j + aq)))
 (fun j => S.at' (S.mkl nq fun j => tq (j + aq)) j) rp fl) +
 nl)
 fun j =>
 bif
 Nat.blt j
 (List.length
 (S.stpL (List.length (S.mkl nq fun j => tq (j + aq)))
 (fun j => S.at' (S.mkl nq fun j => tq (j + aq)) j) rp fl)) then
 S.at'
 (S.stpL (List.length (S.mkl nq fun j => tq (j + aq)))
 (fun j => S.at' (S.mkl nq fun j => tq (j + aq)) j) rp fl)
 j
 else
 tl
 (j -
 List.length
 (S.stpL (List.length (S.mkl nq fun j => tq (j + aq)))
 (fun j => S.at' (S.mkl nq fun j => tq (j + aq)) j) rp fl) +
 al))) ==
 Prod.snd
 (S.faS
 (S.botE
 (S.magE nr (fun j => tr (j + ar)) (fun j => vr (j + ar)) (fun j => gr (j + ar))
 no)
 (S.cyE cn nq (fun j => tq (j + aq)) rp fl))
 (S.setE nl fun j => tl (j + al))
 (S.erB (fun j => tr (j + ar)) (fun j => vr (j + ar))
 (List.length (S.stpL nq (fun j => tq (j + aq)) rp fl))
 (fun j => S.at' (S.stpL nq (fun j => tq (j + aq)) rp fl) j) (0) nr)
 (S.fldH nr (fun j => tr (j + ar)) (fun j => vr (j + ar)) (fun j => gr (j + ar))
 (fun j => to (j + ao)) (List.length (S.stpL nq (fun j => tq (j + aq)) rp fl) + nl)
 fun j =>
 bif Nat.blt j (List.length (S.stpL nq (fun j => tq (j + aq)) rp fl)) then
 S.at' (S.stpL nq (fun j => tq (j + aq)) rp fl) j
 else tl (j - List.length (S.stpL nq (fun j => tq (j + aq)) rp fl) + al))))
 then (some (.inr (true)))
 else (some (.inr (false))))
 else (some (.inr (false))))
 else (none))
 else (none))
 else (none))
 else (none))
 else (some (.inr (true))))
 else (some (.inr (true)))
noncomputable def Te106 (test : Bool → Prop → Prop → Prop) (Kst : KS) (Kret : KR) (ar nr mr : Nat) (tr : Nat → Int) (vr : Nat → Int) (gr : Nat → Int) (ao no mo : Nat) (to : Nat → Bool) (cn : ByteArray) (aq nq mq : Nat) (tq : Nat → Int) (rp : Int) (fl : Int) (al nl ml : Nat) (tl : Nat → Int) : Prop :=
  test (true)
 (test (true)
 (test (true)
 (test (S.fewC cn nq nl)
 (test (true)
 (test (decide (nr ≤ 45 ∧ no ≤ 50))
 (test (decide (aq + nq ≤ mq ∧ nq ≤ 1000000))
 (test (decide (al + nl ≤ ml ∧ nl ≤ 1000000))
 (test (decide
 ((ar + nr ≤ mr ∧ nr ≤ 1000000) ∧
 (ao + no ≤ mo ∧ no ≤ 1000000) ∧
 (0 + List.length (S.mkl nq fun j => tq (j + aq)) ≤
 List.length (S.mkl nq fun j => tq (j + aq)) ∧
 List.length (S.mkl nq fun j => tq (j + aq)) ≤ 1000000) ∧
 0 + nl ≤ nl ∧ nl ≤ 1000000))
 (test (decide
 ((ar + nr ≤ mr ∧ nr ≤ 1000000) ∧
 (ao + no ≤ mo ∧ no ≤ 1000000) ∧ (aq + nq ≤ mq ∧ nq ≤ 1000000) ∧ al + nl ≤ ml ∧ nl ≤ 1000000))
 (test (Prod.fst
 (S.faS
 (S.botE
 (S.magE nr (fun j => tr (j + ar)) (fun j => vr (j + ar)) (fun j => gr (j + ar))
 no)
 (S.cyE cn (List.length (S.mkl nq fun j => tq (j + aq)))
 (fun j => S.at' (S.mkl nq fun j => tq (j + aq)) j) rp fl))
 (S.setE nl fun j => tl (j + al))
 (S.erB (fun j => tr (j + ar)) (fun j => vr (j + ar))
 (List.length
 (S.stpL (List.length (S.mkl nq fun j => tq (j + aq)))
 (fun j => S.at' (S.mkl nq fun j => tq (j + aq)) j) rp fl))
 (fun j =>
 S.at'
 (S.stpL (List.length (S.mkl nq fun j => tq (j + aq)))
 (fun j => S.at' (S.mkl nq fun j => tq (j + aq)) j) rp fl)
 j)
 (0) nr)
 (S.fldH nr (fun j => tr (j + ar)) (fun j => vr (j + ar)) (fun j => gr (j + ar))
 (fun j => to (j + ao))
 (List.length
 (S.stpL (List.length (S.mkl nq fun j => tq (j + aq)))
 (fun j => S.at' (S.mkl nq fun j => tq (j + aq)) j) rp fl) +
 nl)
 fun j =>
 bif
 Nat.blt j
 (List.length
 (S.stpL (List.length (S.mkl nq fun j => tq (j + aq)))
 (fun j => S.at' (S.mkl nq fun j => tq (j + aq)) j) rp fl)) then
 S.at'
 (S.stpL (List.length (S.mkl nq fun j => tq (j + aq)))
 (fun j => S.at' (S.mkl nq fun j => tq (j + aq)) j) rp fl)
 j
 else
 tl
 (j -
 List.length
 (S.stpL (List.length (S.mkl nq fun j => tq (j + aq)))
 (fun j => S.at' (S.mkl nq fun j => tq (j + aq)) j) rp fl) +
 al))) ==
 Prod.fst
 (S.faS
 (S.botE
 (S.magE nr (fun j => tr (j + ar)) (fun j => vr (j + ar)) (fun j => gr (j + ar))
 no)
 (S.cyE cn nq (fun j => tq (j + aq)) rp fl))
 (S.setE nl fun j => tl (j + al))
 (S.erB (fun j => tr (j + ar)) (fun j => vr (j + ar))
 (List.length (S.stpL nq (fun j => tq (j + aq)) rp fl))
 (fun j => S.at' (S.stpL nq (fun j => tq (j + aq)) rp fl) j) (0) nr)
 (S.fldH nr (fun j => tr (j + ar)) (fun j => vr (j + ar)) (fun j => gr (j + ar))
 (fun j => to (j + ao)) (List.length (S.stpL nq (fun j => tq (j + aq)) rp fl) + nl)
 fun j =>
 bif Nat.blt j (List.length (S.stpL nq (fun j => tq (j + aq)) rp fl)) then
 S.at' (S.stpL nq (fun j => tq (j + aq)) rp fl) j
 else tl (j - List.length (S.stpL nq (fun j => tq (j + aq)) rp fl) + al))))
 (test (Prod.snd
 (S.faS
 (S.botE
 (S.magE nr (fun j => tr (j + ar)) (fun j => vr (j + ar)) (fun j => gr (j + ar))
 no)
 (S.cyE cn (List.length (S.mkl nq fun j => tq (j + aq)))
 (fun j => S.at' (S.mkl nq fun j => tq (j + aq)) j) rp fl))
 (S.setE nl fun j => tl (j + al))
 (S.erB (fun j => tr (j + ar)) (fun j => vr (j + ar))
 (List.length
 (S.stpL (List.length (S.mkl nq fun j => tq (j + aq)))
 (fun j => S.at' (S.mkl nq fun j => tq (j + aq)) j) rp fl))
 (fun j =>
 S.at'
 (S.stpL (List.length (S.mkl nq fun j => tq (j + aq)))
 (fun j => S.at' (S.mkl nq fun j => tq (j + aq)) j) rp fl)
 j)
 (0) nr)
 (S.fldH nr (fun j => tr (j + ar)) (fun j => vr (j + ar)) (fun j => gr (j + ar))
 (fun j => to (j + ao))
 (List.length
 (S.stpL (List.length (S.mkl nq fun j => tq (j + aq)))
 (fun j => S.at' (S.mkl nq fun j => tq (j + aq)) j) rp fl) +
 nl)
 fun j =>
 bif
 Nat.blt j
 (List.length
 (S.stpL (List.length (S.mkl nq fun j => tq (j + aq)))
 (fun j => S.at' (S.mkl nq fun j => tq (j + aq)) j) rp fl)) then
 S.at'
 (S.stpL (List.length (S.mkl nq fun j => tq (j + aq)))
 (fun j => S.at' (S.mkl nq fun j => tq (j + aq)) j) rp fl)
 j
 else
 tl
 (j -
 List.length
 (S.stpL (List.length (S.mkl nq fun j => tq (j + aq)))
 (fun j => S.at' (S.mkl nq fun j => tq (j + aq)) j) rp fl) +
 al))) ==
 Prod.snd
 (S.faS
 (S.botE
 (S.magE nr (fun j => tr (j + ar)) (fun j => vr (j + ar)) (fun j => gr (j + ar))
 no)
 (S.cyE cn nq (fun j => tq (j + aq)) rp fl))
 (S.setE nl fun j => tl (j + al))
 (S.erB (fun j => tr (j + ar)) (fun j => vr (j + ar))
 (List.length (S.stpL nq (fun j => tq (j + aq)) rp fl))
 (fun j => S.at' (S.stpL nq (fun j => tq (j + aq)) rp fl) j) (0) nr)
 (S.fldH nr (fun j => tr (j + ar)) (fun j => vr (j + ar)) (fun j => gr (j + ar))
 (fun j => to (j + ao)) (List.length (S.stpL nq (fun j => tq (j + aq)) rp fl) + nl)
 fun j =>
 bif Nat.blt j (List.length (S.stpL nq (fun j => tq (j + aq)) rp fl)) then
 S.at' (S.stpL nq (fun j => tq (j + aq)) rp fl) j
 else tl (j - List.length (S.stpL nq (fun j => tq (j + aq)) rp fl) + al))))
 (Kret (PV.tf true) ([[(3, false, Blk.cols ml [Col.int IntKind.i64 tl]),
 (2, false, Blk.cols mq [Col.int IntKind.i64 tq]),
 (1, false, Blk.cols mo [Col.bool to]),
 (0, false,
 Blk.cols mr
 [Col.int IntKind.i64 tr, Col.int IntKind.i64 vr, Col.int IntKind.i64 gr])]]) (15))
 (Kret (PV.tf false) ([[(3, false, Blk.cols ml [Col.int IntKind.i64 tl]),
 (2, false, Blk.cols mq [Col.int IntKind.i64 tq]),
 (1, false, Blk.cols mo [Col.bool to]),
 (0, false,
 Blk.cols mr
 [Col.int IntKind.i64 tr, Col.int IntKind.i64 vr, Col.int IntKind.i64 gr])]]) (15)))
 (Kret (PV.tf false) ([[(3, false, Blk.cols ml [Col.int IntKind.i64 tl]),
 (2, false, Blk.cols mq [Col.int IntKind.i64 tq]),
 (1, false, Blk.cols mo [Col.bool to]),
 (0, false,
 Blk.cols mr
 [Col.int IntKind.i64 tr, Col.int IntKind.i64 vr, Col.int IntKind.i64 gr])]]) (15)))
 (False))
 (False))
 (False))
 (False))
 (test (true)
 (test (true)
 (Kret (PV.tf true) ([[(3, false, Blk.cols ml [Col.int IntKind.i64 tl]),
 (2, false, Blk.cols mq [Col.int IntKind.i64 tq]),
 (1, false, Blk.cols mo [Col.bool to]),
 (0, false,
 Blk.cols mr
 [Col.int IntKind.i64 tr, Col.int IntKind.i64 vr, Col.int IntKind.i64 gr])]]) (10))
 (Kret (PV.tf false) ([[(3, false, Blk.cols ml [Col.int IntKind.i64 tl]),
 (2, false, Blk.cols mq [Col.int IntKind.i64 tq]),
 (1, false, Blk.cols mo [Col.bool to]),
 (0, false,
 Blk.cols mr
 [Col.int IntKind.i64 tr, Col.int IntKind.i64 vr, Col.int IntKind.i64 gr])]]) (10)))
 (False)))
 (False))
 (test (true)
 (test (true)
 (Kret (PV.tf true) ([[(3, false, Blk.cols ml [Col.int IntKind.i64 tl]),
 (2, false, Blk.cols mq [Col.int IntKind.i64 tq]),
 (1, false, Blk.cols mo [Col.bool to]),
 (0, false,
 Blk.cols mr
 [Col.int IntKind.i64 tr, Col.int IntKind.i64 vr, Col.int IntKind.i64 gr])]]) (9))
 (Kret (PV.tf false) ([[(3, false, Blk.cols ml [Col.int IntKind.i64 tl]),
 (2, false, Blk.cols mq [Col.int IntKind.i64 tq]),
 (1, false, Blk.cols mo [Col.bool to]),
 (0, false,
 Blk.cols mr
 [Col.int IntKind.i64 tr, Col.int IntKind.i64 vr, Col.int IntKind.i64 gr])]]) (9)))
 (False)))
 (False))
 (test (true)
 (test (true)
 (Kret (PV.tf true) ([[(3, false, Blk.cols ml [Col.int IntKind.i64 tl]),
 (2, false, Blk.cols mq [Col.int IntKind.i64 tq]),
 (1, false, Blk.cols mo [Col.bool to]),
 (0, false,
 Blk.cols mr
 [Col.int IntKind.i64 tr, Col.int IntKind.i64 vr, Col.int IntKind.i64 gr])]]) (8))
 (Kret (PV.tf false) ([[(3, false, Blk.cols ml [Col.int IntKind.i64 tl]),
 (2, false, Blk.cols mq [Col.int IntKind.i64 tq]),
 (1, false, Blk.cols mo [Col.bool to]),
 (0, false,
 Blk.cols mr
 [Col.int IntKind.i64 tr, Col.int IntKind.i64 vr, Col.int IntKind.i64 gr])]]) (8)))
 (False)))
 (False)
theorem te106 (test : Bool → Prop → Prop → Prop) (Kst : KS) (Kret : KR) (ar nr mr : Nat) (tr : Nat → Int) (vr : Nat → Int) (gr : Nat → Int) (ao no mo : Nat) (to : Nat → Bool) (cn : ByteArray) (aq nq mq : Nat) (tq : Nat → Int) (rp : Int) (fl : Int) (al nl ml : Nat) (tl : Nat → Int) : run test Try.env true (xC6 test) true 400 ⟨6, [.cd (mkFn Try.f6).body], argT 0 [.agg [.loose ⟨0, 3, ar, 0⟩ nr, .loose ⟨1, 1, ao, 0⟩ no], .agg [.str cn, .loose ⟨2, 1, aq, 0⟩ nq, .int .i64 rp, .int .i64 fl], .loose ⟨3, 1, al, 0⟩ nl], [[], [(0, (false, .cols mr [.int .i64 tr, .int .i64 vr, .int .i64 gr])), (1, (false, .cols mo [.bool to])), (2, (false, .cols mq [.int .i64 tq])), (3, (false, .cols ml [.int .i64 tl]))]], 4⟩ (proj 4 [] Kst Kret) =
  Te106 test Kst Kret ar nr mr tr vr gr ao no mo to cn aq nq mq tq rp fl al nl ml tl := by kernel_rfl
theorem be106 (ar nr mr : Nat) (tr : Nat → Int) (vr : Nat → Int) (gr : Nat → Int) (ao no mo : Nat) (to : Nat → Bool) (cn : ByteArray) (aq nq mq : Nat) (tq : Nat → Int) (rp : Int) (fl : Int) (al nl ml : Nat) (tl : Nat → Int) (Kst : KS) (Kret : KR) (x : St106 ⊕ Rt106) (hS : HS 4 400 ((I106 ar nr mr tr vr gr ao no mo to cn aq nq mq tq rp fl al nl ml tl)) Kst x) (hR : HR 4 400 ((V106 ar nr mr tr vr gr ao no mo to cn aq nq mq tq rp fl al nl ml tl)) (fun r => [newL (4 + 1) ((N106 ar nr mr tr vr gr ao no mo to cn aq nq mq tq rp fl al nl ml tl) r) ++ [(0, (false, .cols mr [.int .i64 tr, .int .i64 vr, .int .i64 gr])), (1, (false, .cols mo [.bool to])), (2, (false, .cols mq [.int .i64 tq])), (3, (false, .cols ml [.int .i64 tl]))]]) Kret x) (h : (bif (S.fewC cn nq nl)
 then (bif (decide (nr ≤ 45 ∧ no ≤ 50))
 then (bif (decide (aq + nq ≤ mq ∧ nq ≤ 1000000))
 then (bif (decide (al + nl ≤ ml ∧ nl ≤ 1000000))
 then (bif (decide
 ((ar + nr ≤ mr ∧ nr ≤ 1000000) ∧
 (ao + no ≤ mo ∧ no ≤ 1000000) ∧
 (0 + List.length (S.mkl nq fun j => tq (j + aq)) ≤
 List.length (S.mkl nq fun j => tq (j + aq)) ∧
 List.length (S.mkl nq fun j => tq (j + aq)) ≤ 1000000) ∧
 0 + nl ≤ nl ∧ nl ≤ 1000000))
 then (bif (decide
 ((ar + nr ≤ mr ∧ nr ≤ 1000000) ∧
 (ao + no ≤ mo ∧ no ≤ 1000000) ∧ (aq + nq ≤ mq ∧ nq ≤ 1000000) ∧ al + nl ≤ ml ∧ nl ≤ 1000000))
 then (bif (Prod.fst
 (S.faS
 (S.botE
 (S.magE nr (fun j => tr (j + ar)) (fun j => vr (j + ar)) (fun j => gr (j + ar))
 no)
 (S.cyE cn (List.length (S.mkl nq fun j => tq (j + aq)))
 (fun j => S.at' (S.mkl nq fun j => tq (j + aq)) j) rp fl))
 (S.setE nl fun j => tl (j + al))
 (S.erB (fun j => tr (j + ar)) (fun j => vr (j + ar))
 (List.length
 (S.stpL (List.length (S.mkl nq fun j => tq (j + aq)))
 (fun j => S.at' (S.mkl nq fun j => tq (j + aq)) j) rp fl))
 (fun j =>
 S.at'
 (S.stpL (List.length (S.mkl nq fun j => tq (j + aq)))
 (fun j => S.at' (S.mkl nq fun j => tq (j + aq)) j) rp fl)
 j)
 (0) nr)
 (S.fldH nr (fun j => tr (j + ar)) (fun j => vr (j + ar)) (fun j => gr (j + ar))
 (fun j => to (j + ao))
 (List.length
 (S.stpL (List.length (S.mkl nq fun j => tq (j + aq)))
 (fun j => S.at' (S.mkl nq fun j => tq (j + aq)) j) rp fl) +
 nl)
 fun j =>
 bif
 Nat.blt j
 (List.length
 (S.stpL (List.length (S.mkl nq fun j => tq (j + aq)))
 (fun j => S.at' (S.mkl nq fun j => tq (j + aq)) j) rp fl)) then
 S.at'
 (S.stpL (List.length (S.mkl nq fun j => tq (j + aq)))
 (fun j => S.at' (S.mkl nq fun j => tq (j + aq)) j) rp fl)
 j
 else
 tl
 (j -
 List.length
 (S.stpL (List.length (S.mkl nq fun j => tq (j + aq)))
 (fun j => S.at' (S.mkl nq fun j => tq (j + aq)) j) rp fl) +
 al))) ==
 Prod.fst
 (S.faS
 (S.botE
 (S.magE nr (fun j => tr (j + ar)) (fun j => vr (j + ar)) (fun j => gr (j + ar))
 no)
 (S.cyE cn nq (fun j => tq (j + aq)) rp fl))
 (S.setE nl fun j => tl (j + al))
 (S.erB (fun j => tr (j + ar)) (fun j => vr (j + ar))
 (List.length (S.stpL nq (fun j => tq (j + aq)) rp fl))
 (fun j => S.at' (S.stpL nq (fun j => tq (j + aq)) rp fl) j) (0) nr)
 (S.fldH nr (fun j => tr (j + ar)) (fun j => vr (j + ar)) (fun j => gr (j + ar))
 (fun j => to (j + ao)) (List.length (S.stpL nq (fun j => tq (j + aq)) rp fl) + nl)
 fun j =>
 bif Nat.blt j (List.length (S.stpL nq (fun j => tq (j + aq)) rp fl)) then
 S.at' (S.stpL nq (fun j => tq (j + aq)) rp fl) j
 else tl (j - List.length (S.stpL nq (fun j => tq (j + aq)) rp fl) + al))))
 then (bif (Prod.snd
 (S.faS
 (S.botE
 (S.magE nr (fun j => tr (j + ar)) (fun j => vr (j + ar)) (fun j => gr (j + ar))
 no)
 (S.cyE cn (List.length (S.mkl nq fun j => tq (j + aq)))
 (fun j => S.at' (S.mkl nq fun j => tq (j + aq)) j) rp fl))
 (S.setE nl fun j => tl (j + al))
 (S.erB (fun j => tr (j + ar)) (fun j => vr (j + ar))
 (List.length
 (S.stpL (List.length (S.mkl nq fun j => tq (j + aq)))
 (fun j => S.at' (S.mkl nq fun j => tq (j + aq)) j) rp fl))
 (fun j =>
 S.at'
 (S.stpL (List.length (S.mkl nq fun j => tq (j + aq)))
 (fun j => S.at' (S.mkl nq fun j => tq (j + aq)) j) rp fl)
 j)
 (0) nr)
 (S.fldH nr (fun j => tr (j + ar)) (fun j => vr (j + ar)) (fun j => gr (j + ar))
 (fun j => to (j + ao))
 (List.length
 (S.stpL (List.length (S.mkl nq fun j => tq (j + aq)))
 (fun j => S.at' (S.mkl nq fun j => tq (j + aq)) j) rp fl) +
 nl)
 fun j =>
 bif
 Nat.blt j
 (List.length
 (S.stpL (List.length (S.mkl nq fun j => tq (j + aq)))
 (fun j => S.at' (S.mkl nq fun j => tq (j + aq)) j) rp fl)) then
 S.at'
 (S.stpL (List.length (S.mkl nq fun j => tq (j + aq)))
 (fun j => S.at' (S.mkl nq fun j => tq (j + aq)) j) rp fl)
 j
 else
 tl
 (j -
 List.length
 (S.stpL (List.length (S.mkl nq fun j => tq (j + aq)))
 (fun j => S.at' (S.mkl nq fun j => tq (j + aq)) j) rp fl) +
 al))) ==
 Prod.snd
 (S.faS
 (S.botE
 (S.magE nr (fun j => tr (j + ar)) (fun j => vr (j + ar)) (fun j => gr (j + ar))
 no)
 (S.cyE cn nq (fun j => tq (j + aq)) rp fl))
 (S.setE nl fun j => tl (j + al))
 (S.erB (fun j => tr (j + ar)) (fun j => vr (j + ar))
 (List.length (S.stpL nq (fun j => tq (j + aq)) rp fl))
 (fun j => S.at' (S.stpL nq (fun j => tq (j + aq)) rp fl) j) (0) nr)
 (S.fldH nr (fun j => tr (j + ar)) (fun j => vr (j + ar)) (fun j => gr (j + ar))
 (fun j => to (j + ao)) (List.length (S.stpL nq (fun j => tq (j + aq)) rp fl) + nl)
 fun j =>
 bif Nat.blt j (List.length (S.stpL nq (fun j => tq (j + aq)) rp fl)) then
 S.at' (S.stpL nq (fun j => tq (j + aq)) rp fl) j
 else tl (j - List.length (S.stpL nq (fun j => tq (j + aq)) rp fl) + al))))
 then (some (.inr (true)))
 else (some (.inr (false))))
 else (some (.inr (false))))
 else (none))
 else (none))
 else (none))
 else (none))
 else (some (.inr (true))))
 else (some (.inr (true))) : Option (St106 ⊕ Rt106)) = some x) : Te106 cond Kst Kret ar nr mr tr vr gr ao no mo to cn aq nq mq tq rp fl al nl ml tl := by
  unfold Te106
  exact cond_yes rfl (cond_yes rfl (cond_yes rfl (bif_split h
   (fun c0 h => cond_yes rfl (bif_split h
   (fun c1 h => bif_split h
   (fun c2 h => bif_split h
   (fun c3 h => bif_split h
   (fun c4 h => bif_split h
   (fun c5 h => bif_split h
   (fun c6 h => bif_split h
   (fun c7 h => ret_at hR _ h (fun n => n) rfl rfl rfl (rn_bool_tf rfl) rfl (entl_bor (use_lo rfl) rfl rfl (entl_bor (use_lo rfl) rfl rfl (entl_bor (use_lo rfl) rfl rfl (entl_bor (use_lo rfl) rfl rfl entl_nil)))))
   (fun c7 h => ret_at hR _ h (fun n => n) rfl rfl rfl (rn_bool_tf rfl) rfl (entl_bor (use_lo rfl) rfl rfl (entl_bor (use_lo rfl) rfl rfl (entl_bor (use_lo rfl) rfl rfl (entl_bor (use_lo rfl) rfl rfl entl_nil))))))
   (fun c6 h => ret_at hR _ h (fun n => n) rfl rfl rfl (rn_bool_tf rfl) rfl (entl_bor (use_lo rfl) rfl rfl (entl_bor (use_lo rfl) rfl rfl (entl_bor (use_lo rfl) rfl rfl (entl_bor (use_lo rfl) rfl rfl entl_nil))))))
   (fun c5 h => no_some h))
   (fun c4 h => no_some h))
   (fun c3 h => no_some h))
   (fun c2 h => no_some h))
   (fun c1 h => cond_yes rfl (cond_yes rfl (ret_at hR _ h (fun n => n) rfl rfl rfl (rn_bool_tf rfl) rfl (entl_bor (use_lo rfl) rfl rfl (entl_bor (use_lo rfl) rfl rfl (entl_bor (use_lo rfl) rfl rfl (entl_bor (use_lo rfl) rfl rfl entl_nil)))))))))
   (fun c0 h => cond_yes rfl (cond_yes rfl (ret_at hR _ h (fun n => n) rfl rfl rfl (rn_bool_tf rfl) rfl (entl_bor (use_lo rfl) rfl rfl (entl_bor (use_lo rfl) rfl rfl (entl_bor (use_lo rfl) rfl rfl (entl_bor (use_lo rfl) rfl rfl entl_nil))))))))))
theorem a106 (ar nr mr : Nat) (tr : Nat → Int) (vr : Nat → Int) (gr : Nat → Int) (ao no mo : Nat) (to : Nat → Bool) (cn : ByteArray) (aq nq mq : Nat) (tq : Nat → Int) (rp : Int) (fl : Int) (al nl ml : Nat) (tl : Nat → Int) {r : Rt106} (h : Goes ((q106 ar nr mr tr vr gr ao no mo to cn aq nq mq tq rp fl al nl ml tl)) ((p106 ar nr mr tr vr gr ao no mo to cn aq nq mq tq rp fl al nl ml tl)) r) : CallR Try.prog 6 [.agg [.loose ⟨0, 3, ar, 0⟩ nr, .loose ⟨1, 1, ao, 0⟩ no], .agg [.str cn, .loose ⟨2, 1, aq, 0⟩ nq, .int .i64 rp, .int .i64 fl], .loose ⟨3, 1, al, 0⟩ nl] [[(0, (false, .cols mr [.int .i64 tr, .int .i64 vr, .int .i64 gr])), (1, (false, .cols mo [.bool to])), (2, (false, .cols mq [.int .i64 tq])), (3, (false, .cols ml [.int .i64 tl]))]] 4 ((V106 ar nr mr tr vr gr ao no mo to cn aq nq mq tq rp fl al nl ml tl) r) ((fun r => [newL (4 + 1) ((N106 ar nr mr tr vr gr ao no mo to cn aq nq mq tq rp fl al nl ml tl) r) ++ [(0, (false, .cols mr [.int .i64 tr, .int .i64 vr, .int .i64 gr])), (1, (false, .cols mo [.bool to])), (2, (false, .cols mq [.int .i64 tq])), (3, (false, .cols ml [.int .i64 tl]))]]) r) 400 ∧ ∃ F, Try.prog.funcs[6]? = some F ∧ F.body.isSome = true ∧ (F.name == "runtime.NumGoroutine") = false := by
  refine dec_calls (f := 6) (lo := 4) (hi := 400) (H := [[(0, (false, .cols mr [.int .i64 tr, .int .i64 vr, .int .i64 gr])), (1, (false, .cols mo [.bool to])), (2, (false, .cols mq [.int .i64 tq])), (3, (false, .cols ml [.int .i64 tl]))]]) (args := [.agg [.loose ⟨0, 3, ar, 0⟩ nr, .loose ⟨1, 1, ao, 0⟩ no], .agg [.str cn, .loose ⟨2, 1, aq, 0⟩ nq, .int .i64 rp, .int .i64 fl], .loose ⟨3, 1, al, 0⟩ nl]) Try.envOk Try.mixed xC6_ok ((I106 ar nr mr tr vr gr ao no mo to cn aq nq mq tq rp fl al nl ml tl)) ((V106 ar nr mr tr vr gr ao no mo to cn aq nq mq tq rp fl al nl ml tl)) (fun r => [newL (4 + 1) ((N106 ar nr mr tr vr gr ao no mo to cn aq nq mq tq rp fl al nl ml tl) r) ++ [(0, (false, .cols mr [.int .i64 tr, .int .i64 vr, .int .i64 gr])), (1, (false, .cols mo [.bool to])), (2, (false, .cols mq [.int .i64 tq])), (3, (false, .cols ml [.int .i64 tl]))]]) (fn := mkFn Try.f6) (ts := []) (n := 400) rfl (by decide) (by simp) (names_of rfl) ?_ ?_ ?_ h
  · intro s; exact s.elim
  · intro Kst Kret x hS hR h
    exact Holds.eq (te106 cond Kst Kret ar nr mr tr vr gr ao no mo to cn aq nq mq tq rp fl al nl ml tl) (be106 ar nr mr tr vr gr ao no mo to cn aq nq mq tq rp fl al nl ml tl Kst Kret x hS hR h)
  · intro Kst Kret x hS hR s h; exact s.elim
noncomputable def k106 : Con := ⟨6, [.agg [.list [.int .i64, .int .i64, .int .i64], .list [.bool]], .agg [.plain (.str), .list [.int .i64], .plain (.int .i64), .plain (.int .i64)], .one (.list [.int .i64])], fun (x : ((Nat × Nat × Nat × (Nat → Int) × (Nat → Int) × (Nat → Int) × Unit) × (Nat × Nat × Nat × (Nat → Bool) × Unit) × Unit) × (ByteArray × (Nat × Nat × Nat × (Nat → Int) × Unit) × Int × Int × Unit) × (Nat × Nat × Nat × (Nat → Int) × Unit) × Unit) => (fun (ar nr mr : Nat) (tr : Nat → Int) (vr : Nat → Int) (gr : Nat → Int) (ao no mo : Nat) (to : Nat → Bool) (cn : ByteArray) (aq nq mq : Nat) (tq : Nat → Int) (rp : Int) (fl : Int) (al nl ml : Nat) (tl : Nat → Int) => decide (ar + nr ≤ mr ∧ ao + no ≤ mo ∧ aq + nq ≤ mq ∧ al + nl ≤ ml)) x.1.1.1 x.1.1.2.1 x.1.1.2.2.1 x.1.1.2.2.2.1 x.1.1.2.2.2.2.1 x.1.1.2.2.2.2.2.1 x.1.2.1.1 x.1.2.1.2.1 x.1.2.1.2.2.1 x.1.2.1.2.2.2.1 x.2.1.1 x.2.1.2.1.1 x.2.1.2.1.2.1 x.2.1.2.1.2.2.1 x.2.1.2.1.2.2.2.1 x.2.1.2.2.1 x.2.1.2.2.2.1 x.2.2.1.1 x.2.2.1.2.1 x.2.2.1.2.2.1 x.2.2.1.2.2.2.1, fun (x : ((Nat × Nat × Nat × (Nat → Int) × (Nat → Int) × (Nat → Int) × Unit) × (Nat × Nat × Nat × (Nat → Bool) × Unit) × Unit) × (ByteArray × (Nat × Nat × Nat × (Nat → Int) × Unit) × Int × Int × Unit) × (Nat × Nat × Nat × (Nat → Int) × Unit) × Unit) => (fun (ar nr mr : Nat) (tr : Nat → Int) (vr : Nat → Int) (gr : Nat → Int) (ao no mo : Nat) (to : Nat → Bool) (cn : ByteArray) (aq nq mq : Nat) (tq : Nat → Int) (rp : Int) (fl : Int) (al nl ml : Nat) (tl : Nat → Int) => (V106 ar nr mr tr vr gr ao no mo to cn aq nq mq tq rp fl al nl ml tl) (true)) x.1.1.1 x.1.1.2.1 x.1.1.2.2.1 x.1.1.2.2.2.1 x.1.1.2.2.2.2.1 x.1.1.2.2.2.2.2.1 x.1.2.1.1 x.1.2.1.2.1 x.1.2.1.2.2.1 x.1.2.1.2.2.2.1 x.2.1.1 x.2.1.2.1.1 x.2.1.2.1.2.1 x.2.1.2.1.2.2.1 x.2.1.2.1.2.2.2.1 x.2.1.2.2.1 x.2.1.2.2.2.1 x.2.2.1.1 x.2.2.1.2.1 x.2.2.1.2.2.1 x.2.2.1.2.2.2.1, fun (x : ((Nat × Nat × Nat × (Nat → Int) × (Nat → Int) × (Nat → Int) × Unit) × (Nat × Nat × Nat × (Nat → Bool) × Unit) × Unit) × (ByteArray × (Nat × Nat × Nat × (Nat → Int) × Unit) × Int × Int × Unit) × (Nat × Nat × Nat × (Nat → Int) × Unit) × Unit) => (fun (ar nr mr : Nat) (tr : Nat → Int) (vr : Nat → Int) (gr : Nat → Int) (ao no mo : Nat) (to : Nat → Bool) (cn : ByteArray) (aq nq mq : Nat) (tq : Nat → Int) (rp : Int) (fl : Int) (al nl ml : Nat) (tl : Nat → Int) => (N106 ar nr mr tr vr gr ao no mo to cn aq nq mq tq rp fl al nl ml tl) (true)) x.1.1.1 x.1.1.2.1 x.1.1.2.2.1 x.1.1.2.2.2.1 x.1.1.2.2.2.2.1 x.1.1.2.2.2.2.2.1 x.1.2.1.1 x.1.2.1.2.1 x.1.2.1.2.2.1 x.1.2.1.2.2.2.1 x.2.1.1 x.2.1.2.1.1 x.2.1.2.1.2.1 x.2.1.2.1.2.2.1 x.2.1.2.1.2.2.2.1 x.2.1.2.2.1 x.2.1.2.2.2.1 x.2.2.1.1 x.2.2.1.2.1 x.2.2.1.2.2.1 x.2.2.1.2.2.2.1, fun _ _ => .dead⟩
theorem s106 (ar nr mr : Nat) (tr : Nat → Int) (vr : Nat → Int) (gr : Nat → Int) (ao no mo : Nat) (to : Nat → Bool) (cn : ByteArray) (aq nq mq : Nat) (tq : Nat → Int) (rp : Int) (fl : Int) (al nl ml : Nat) (tl : Nat → Int) (hp : ar + nr ≤ mr ∧ ao + no ≤ mo ∧ aq + nq ≤ mq ∧ al + nl ≤ ml) : Goes ((q106 ar nr mr tr vr gr ao no mo to cn aq nq mq tq rp fl al nl ml tl)) ((p106 ar nr mr tr vr gr ao no mo to cn aq nq mq tq rp fl al nl ml tl)) (true) := by
  obtain ⟨hp1, hp2, hp3, hp4⟩ := hp
  unfold p106
  cases hf : S.fewC cn nq nl
  · exact goes_inr.mpr rfl
  have hq := few_n hf
  simp only [mkl_len, cy_mkl, stp_mkl, BEq.rfl]
  show Goes _ _ _
  skip
  all_goals
   repeat' first
    | with_reducible exact goes_inr.mpr rfl
    | with_reducible refine goes_if (fun h => ?_) (fun h => ?_) <;> (try simp only [lim64, imp_false, decide_eq_true_eq, decide_eq_false_iff_not, Int.toNat_natCast, toNat_pred, toNat_succ, Option.getD_some, Option.getD_none, Bool.not_eq_true', Bool.not_eq_false', Bool.and_eq_true, Bool.or_eq_true, Bool.and_eq_false_iff, Bool.or_eq_false_iff, bne_iff_ne, beq_iff_eq, bne_eq_false_iff_eq, beq_eq_false_iff_ne, ne_eq, not_and, Int.not_le, Int.not_lt, ge_iff_le, gt_iff_lt, Nat.not_lt, Nat.not_le, Bool.not_eq_true, Bool.not_eq_false, Bool.true_eq_false, Bool.false_eq_true, not_false_eq_true, not_true_eq_false] at h)
    | exact goes_none.mpr (by omega)
   all_goals first | (exfalso; omega) | exact goes_inr.mpr rfl | (exfalso; simp_all; done) | (exfalso; simp at h; done)
theorem k106_ok : k106.ok Try.prog := by
  intro x hx
  obtain ⟨⟨⟨ar, nr, mr, tr, vr, gr, _⟩, ⟨ao, no, mo, to, _⟩, _⟩, ⟨cn, ⟨aq, nq, mq, tq, _⟩, rp, fl, _⟩, ⟨al, nl, ml, tl, _⟩, _⟩ := x
  obtain ⟨h1, h2⟩ := a106 ar nr mr tr vr gr ao no mo to cn aq nq mq tq rp fl al nl ml tl (s106 ar nr mr tr vr gr ao no mo to cn aq nq mq tq rp fl al nl ml tl (of_dec hx rfl))
  exact ⟨⟨400, (by decide : 4 + 1 + 0 ≤ 400), h1⟩, h2⟩
end Go.Ev
