/-
  The law of Together.
-/
import Derived.Test.YtffldkecndnbiaaTJ2
namespace Go.Ev
open Go.Proofs
set_option linter.unusedVariables false
set_option linter.unusedSimpArgs false
set_option maxRecDepth 100000
theorem s8 (al nl ml : Nat) (tl : Nat → Int) (am nm mm : Nat) (tm : Nat → Int) (hp : al + nl ≤ ml ∧ am + nm ≤ mm ∧ S.u32s nl (fun q => tl (q + al)) = true ∧ S.bytes nm (fun q => tm (q + am)) = true) : Goes ((q8 al nl ml tl am nm mm tm)) ((p8 al nl ml tl am nm mm tm)) (true) := by
  obtain ⟨hp1, hp2, hu, hby⟩ := hp
  have ht : S.treE (S.mdL nl (fun q => tl (q + al))).length (fun q => (S.at' (S.mdL nl (fun q => tl (q + al))) q).1) (fun q => (S.at' (S.mdL nl (fun q => tl (q + al))) q).2.1) (fun q => (S.at' (S.mdL nl (fun q => tl (q + al))) q).2.2.1) (fun q => (S.at' (S.mdL nl (fun q => tl (q + al))) q).2.2.2) = 0 := mdL_ok hu
  have hlen : (S.mdL nl (fun q => tl (q + al))).length = min nl 30 + 1 := mdL_len
  by_cases hn : nl ≤ 30
  · by_cases hm : nm ≤ 40
    · obtain ⟨v1, v2, v3, v4, v5, v6⟩ := tre_ok ht
      have hle := lea_is ht
      have hcm := cmp_is ht
      have hE : (S.leaL (fun q => (S.at' (S.mdL nl (fun q => tl (q + al))) q).1) (S.mdL nl (fun q => tl (q + al))).length).length ≤ (S.mdL nl (fun q => tl (q + al))).length := cho_len
      have hE1 : 0 < (S.leaL (fun q => (S.at' (S.mdL nl (fun q => tl (q + al))) q).1) (S.mdL nl (fun q => tl (q + al))).length).length := leaL_len v1 v3 v4
      have hEi : ∀ q, q < (S.leaL (fun q => (S.at' (S.mdL nl (fun q => tl (q + al))) q).1) (S.mdL nl (fun q => tl (q + al))).length).length → 0 ≤ S.at' (S.leaL (fun q => (S.at' (S.mdL nl (fun q => tl (q + al))) q).1) (S.mdL nl (fun q => tl (q + al))).length) q ∧ S.at' (S.leaL (fun q => (S.at' (S.mdL nl (fun q => tl (q + al))) q).1) (S.mdL nl (fun q => tl (q + al))).length) q < (S.mdL nl (fun q => tl (q + al))).length := fun q hq => leaL_in hq
      have hAd : (S.mkl (S.leaL (fun q => (S.at' (S.mdL nl (fun q => tl (q + al))) q).1) (S.mdL nl (fun q => tl (q + al))).length).length (S.addI (fun q => (S.at' (S.mdL nl (fun q => tl (q + al))) q).1) (fun q => (S.at' (S.mdL nl (fun q => tl (q + al))) q).2.1) (S.leaL (fun q => (S.at' (S.mdL nl (fun q => tl (q + al))) q).1) (S.mdL nl (fun q => tl (q + al))).length))).length = (S.leaL (fun q => (S.at' (S.mdL nl (fun q => tl (q + al))) q).1) (S.mdL nl (fun q => tl (q + al))).length).length := mkl_len
      have hnn : ∀ y, y < (S.mdL nl (fun q => tl (q + al))).length → 0 ≤ (fun q => (S.at' (S.mdL nl (fun q => tl (q + al))) q).2.2.2) y := fun y hy => (v5 y hy).2.2.1
      obtain ⟨s1, s2⟩ := spr_ok (n := (S.mdL nl (fun q => tl (q + al))).length) (m := nm) (w := (fun q => (S.at' (S.mdL nl (fun q => tl (q + al))) q).2.2.2)) (y := (fun q => tm (q + am))) hnn hby
      obtain ⟨A0, b1, b2, b3⟩ := tog_act (k := (S.mdL nl (fun q => tl (q + al))).length) (g := (fun q => (0 : Int))) ht rfl (fun q hq => by have := hnn q hq; (try dsimp only at *); omega) (S.mkl (S.leaL (fun q => (S.at' (S.mdL nl (fun q => tl (q + al))) q).1) (S.mdL nl (fun q => tl (q + al))).length).length (S.addI (fun q => (S.at' (S.mdL nl (fun q => tl (q + al))) q).1) (fun q => (S.at' (S.mdL nl (fun q => tl (q + al))) q).2.1) (S.leaL (fun q => (S.at' (S.mdL nl (fun q => tl (q + al))) q).1) (S.mdL nl (fun q => tl (q + al))).length))) rfl
      obtain ⟨A1, c1, c2, c3⟩ := tog_act (k := (S.sprL (S.mdL nl (fun q => tl (q + al))).length (fun q => (S.at' (S.mdL nl (fun q => tl (q + al))) q).2.2.2) nm (fun q => tm (q + am))).length) (g := S.at' (S.sprL (S.mdL nl (fun q => tl (q + al))).length (fun q => (S.at' (S.mdL nl (fun q => tl (q + al))) q).2.2.2) nm (fun q => tm (q + am)))) ht s1 s2 (S.mkl (S.leaL (fun q => (S.at' (S.mdL nl (fun q => tl (q + al))) q).1) (S.mdL nl (fun q => tl (q + al))).length).length (S.addI (fun q => (S.at' (S.mdL nl (fun q => tl (q + al))) q).1) (fun q => (S.at' (S.mdL nl (fun q => tl (q + al))) q).2.1) (S.leaL (fun q => (S.at' (S.mdL nl (fun q => tl (q + al))) q).1) (S.mdL nl (fun q => tl (q + al))).length))) rfl
      have m1 : S.minN (fun j => S.at' A0 j) (A0.length - 1) = 1000 + (S.maxZ (S.dnI (fun q => (S.at' (S.mdL nl (fun q => tl (q + al))) q).1) (fun q => (S.at' (S.mdL nl (fun q => tl (q + al))) q).2.1) (S.leaL (fun q => (S.at' (S.mdL nl (fun q => tl (q + al))) q).1) (S.mdL nl (fun q => tl (q + al))).length)) (S.leaL (fun q => (S.at' (S.mdL nl (fun q => tl (q + al))) q).1) (S.mdL nl (fun q => tl (q + al))).length).length) := minN_c fun j hj => by rw [b3 j (by omega), dl_zero _ (fun _ _ => rfl)]; omega
      have m2 : S.maxN (fun j => S.at' A0 j) (A0.length - 1) = 1000 + (S.maxZ (S.dnI (fun q => (S.at' (S.mdL nl (fun q => tl (q + al))) q).1) (fun q => (S.at' (S.mdL nl (fun q => tl (q + al))) q).2.1) (S.leaL (fun q => (S.at' (S.mdL nl (fun q => tl (q + al))) q).1) (S.mdL nl (fun q => tl (q + al))).length)) (S.leaL (fun q => (S.at' (S.mdL nl (fun q => tl (q + al))) q).1) (S.mdL nl (fun q => tl (q + al))).length).length) := maxN_c fun j hj => by rw [b3 j (by omega), dl_zero _ (fun _ _ => rfl)]; omega
      have hrem := remM_ge (g := (S.aptE (fun q => (S.at' (S.mdL nl (fun q => tl (q + al))) q).1) (fun q => (S.at' (S.mdL nl (fun q => tl (q + al))) q).2.2.2) (S.leaL (fun q => (S.at' (S.mdL nl (fun q => tl (q + al))) q).1) (S.mdL nl (fun q => tl (q + al))).length))) (n := (S.leaL (fun q => (S.at' (S.mdL nl (fun q => tl (q + al))) q).1) (S.mdL nl (fun q => tl (q + al))).length).length)
      have m3 : S.maxN (fun j => S.at' A1 j) (A1.length - 1) - S.minN (fun j => S.at' A1 j) (A1.length - 1) ≤ (S.remM (S.aptE (fun q => (S.at' (S.mdL nl (fun q => tl (q + al))) q).1) (fun q => (S.at' (S.mdL nl (fun q => tl (q + al))) q).2.2.2) (S.leaL (fun q => (S.at' (S.mdL nl (fun q => tl (q + al))) q).1) (S.mdL nl (fun q => tl (q + al))).length)) (S.leaL (fun q => (S.at' (S.mdL nl (fun q => tl (q + al))) q).1) (S.mdL nl (fun q => tl (q + al))).length).length) := maxmin fun a c ha hc => by
        have e1 := c3 a (by omega)
        have e2 := c3 c (by omega)
        have n1 := hEi a (by omega)
        have n2 := hEi c (by omega)
        have g1 := apt_ge (p := (fun q => (S.at' (S.mdL nl (fun q => tl (q + al))) q).1)) (x := (S.at' (S.leaL (fun q => (S.at' (S.mdL nl (fun q => tl (q + al))) q).1) (S.mdL nl (fun q => tl (q + al))).length) a).toNat) (y := (S.at' (S.leaL (fun q => (S.at' (S.mdL nl (fun q => tl (q + al))) q).1) (S.mdL nl (fun q => tl (q + al))).length) c).toNat) s2 (by omega) (by omega)
        show S.at' A1 a - S.at' A1 c ≤ _
        rcases Nat.lt_trichotomy a c with h | h | h
        · have g2 : (S.aptE (fun q => (S.at' (S.mdL nl (fun q => tl (q + al))) q).1) (fun q => (S.at' (S.mdL nl (fun q => tl (q + al))) q).2.2.2) (S.leaL (fun q => (S.at' (S.mdL nl (fun q => tl (q + al))) q).1) (S.mdL nl (fun q => tl (q + al))).length)) c a = S.aptI (fun q => (S.at' (S.mdL nl (fun q => tl (q + al))) q).1) (fun q => (S.at' (S.mdL nl (fun q => tl (q + al))) q).2.2.2) (S.at' (S.leaL (fun q => (S.at' (S.mdL nl (fun q => tl (q + al))) q).1) (S.mdL nl (fun q => tl (q + al))).length) c).toNat (S.at' (S.leaL (fun q => (S.at' (S.mdL nl (fun q => tl (q + al))) q).1) (S.mdL nl (fun q => tl (q + al))).length) a).toNat := rfl
          have g3 := hrem.2 c (by omega) a h
          rw [apt_sym] at g1
          omega
        · subst h; omega
        · have g2 : (S.aptE (fun q => (S.at' (S.mdL nl (fun q => tl (q + al))) q).1) (fun q => (S.at' (S.mdL nl (fun q => tl (q + al))) q).2.2.2) (S.leaL (fun q => (S.at' (S.mdL nl (fun q => tl (q + al))) q).1) (S.mdL nl (fun q => tl (q + al))).length)) a c = S.aptI (fun q => (S.at' (S.mdL nl (fun q => tl (q + al))) q).1) (fun q => (S.at' (S.mdL nl (fun q => tl (q + al))) q).2.2.2) (S.at' (S.leaL (fun q => (S.at' (S.mdL nl (fun q => tl (q + al))) q).1) (S.mdL nl (fun q => tl (q + al))).length) a).toNat (S.at' (S.leaL (fun q => (S.at' (S.mdL nl (fun q => tl (q + al))) q).1) (S.mdL nl (fun q => tl (q + al))).length) c).toNat := rfl
          have g3 := hrem.2 a (by omega) c h
          omega
      have m4 : 0 ≤ S.maxN (fun j => S.at' A1 j) (A1.length - 1) - S.minN (fun j => S.at' A1 j) (A1.length - 1) := by
        have h1 := maxN_le.mp (Int.le_refl (S.maxN (fun j => S.at' A1 j) (A1.length - 1))) 0 (Nat.zero_le _)
        have h2 := le_minN.mp (Int.le_refl (S.minN (fun j => S.at' A1 j) (A1.length - 1))) 0 (Nat.zero_le _)
        omega
      have m5 : (S.remM (S.aptE (fun q => (S.at' (S.mdL nl (fun q => tl (q + al))) q).1) (fun q => (S.at' (S.mdL nl (fun q => tl (q + al))) q).2.2.2) (S.leaL (fun q => (S.at' (S.mdL nl (fun q => tl (q + al))) q).1) (S.mdL nl (fun q => tl (q + al))).length)) (S.leaL (fun q => (S.at' (S.mdL nl (fun q => tl (q + al))) q).1) (S.mdL nl (fun q => tl (q + al))).length).length) ≤ 200000000 := by
        rcases remM_ex (g := (S.aptE (fun q => (S.at' (S.mdL nl (fun q => tl (q + al))) q).1) (fun q => (S.at' (S.mdL nl (fun q => tl (q + al))) q).2.2.2) (S.leaL (fun q => (S.at' (S.mdL nl (fun q => tl (q + al))) q).1) (S.mdL nl (fun q => tl (q + al))).length))) (n := (S.leaL (fun q => (S.at' (S.mdL nl (fun q => tl (q + al))) q).1) (S.mdL nl (fun q => tl (q + al))).length).length) with h | ⟨a, c, h1, h2, h3⟩
        · omega
        · have n1 := hEi a (by omega)
          have n2 := hEi c (by omega)
          have k1 := dl_bd ht (x := (S.at' (S.leaL (fun q => (S.at' (S.mdL nl (fun q => tl (q + al))) q).1) (S.mdL nl (fun q => tl (q + al))).length) a).toNat) (by omega)
          have k2 := dl_bd ht (x := (S.at' (S.leaL (fun q => (S.at' (S.mdL nl (fun q => tl (q + al))) q).1) (S.mdL nl (fun q => tl (q + al))).length) c).toNat) (by omega)
          have kc := (com_le (p := (fun q => (S.at' (S.mdL nl (fun q => tl (q + al))) q).1)) (x := (S.at' (S.leaL (fun q => (S.at' (S.mdL nl (fun q => tl (q + al))) q).1) (S.mdL nl (fun q => tl (q + al))).length) c).toNat) (S.at' (S.leaL (fun q => (S.at' (S.mdL nl (fun q => tl (q + al))) q).1) (S.mdL nl (fun q => tl (q + al))).length) a).toNat).1
          have k3 := dl_bd ht (x := S.com (fun q => (S.at' (S.mdL nl (fun q => tl (q + al))) q).1) (S.at' (S.leaL (fun q => (S.at' (S.mdL nl (fun q => tl (q + al))) q).1) (S.mdL nl (fun q => tl (q + al))).length) a).toNat (S.at' (S.leaL (fun q => (S.at' (S.mdL nl (fun q => tl (q + al))) q).1) (S.mdL nl (fun q => tl (q + al))).length) c).toNat) (by omega)
          have g2 : (S.aptE (fun q => (S.at' (S.mdL nl (fun q => tl (q + al))) q).1) (fun q => (S.at' (S.mdL nl (fun q => tl (q + al))) q).2.2.2) (S.leaL (fun q => (S.at' (S.mdL nl (fun q => tl (q + al))) q).1) (S.mdL nl (fun q => tl (q + al))).length)) a c = S.dl (fun q => (S.at' (S.mdL nl (fun q => tl (q + al))) q).1) (fun q => (S.at' (S.mdL nl (fun q => tl (q + al))) q).2.2.2) (S.at' (S.leaL (fun q => (S.at' (S.mdL nl (fun q => tl (q + al))) q).1) (S.mdL nl (fun q => tl (q + al))).length) a).toNat + S.dl (fun q => (S.at' (S.mdL nl (fun q => tl (q + al))) q).1) (fun q => (S.at' (S.mdL nl (fun q => tl (q + al))) q).2.2.2) (S.at' (S.leaL (fun q => (S.at' (S.mdL nl (fun q => tl (q + al))) q).1) (S.mdL nl (fun q => tl (q + al))).length) c).toNat - 2 * S.dl (fun q => (S.at' (S.mdL nl (fun q => tl (q + al))) q).1) (fun q => (S.at' (S.mdL nl (fun q => tl (q + al))) q).2.2.2) (S.com (fun q => (S.at' (S.mdL nl (fun q => tl (q + al))) q).1) (S.at' (S.leaL (fun q => (S.at' (S.mdL nl (fun q => tl (q + al))) q).1) (S.mdL nl (fun q => tl (q + al))).length) a).toNat (S.at' (S.leaL (fun q => (S.at' (S.mdL nl (fun q => tl (q + al))) q).1) (S.mdL nl (fun q => tl (q + al))).length) c).toNat) := rfl
          omega
      have hr1 : (S.leaL (fun q => (S.at' (S.mdL nl (fun q => tl (q + al))) q).1) (S.mdL nl (fun q => tl (q + al))).length).length = 1 → (S.remM (S.aptE (fun q => (S.at' (S.mdL nl (fun q => tl (q + al))) q).1) (fun q => (S.at' (S.mdL nl (fun q => tl (q + al))) q).2.2.2) (S.leaL (fun q => (S.at' (S.mdL nl (fun q => tl (q + al))) q).1) (S.mdL nl (fun q => tl (q + al))).length)) (S.leaL (fun q => (S.at' (S.mdL nl (fun q => tl (q + al))) q).1) (S.mdL nl (fun q => tl (q + al))).length).length) = 0 := fun h => by rw [h]; rfl
      have hx1 : Comes ((q8 al nl ml tl am nm mm tm)) (.h0 true 0 (S.mdL nl (fun q => tl (q + al))) (S.mkl (S.leaL (fun q => (S.at' (S.mdL nl (fun q => tl (q + al))) q).1) (S.mdL nl (fun q => tl (q + al))).length).length (S.addI (fun q => (S.at' (S.mdL nl (fun q => tl (q + al))) q).1) (fun q => (S.at' (S.mdL nl (fun q => tl (q + al))) q).2.1) (S.leaL (fun q => (S.at' (S.mdL nl (fun q => tl (q + al))) q).1) (S.mdL nl (fun q => tl (q + al))).length))) (S.leaL (fun q => (S.at' (S.mdL nl (fun q => tl (q + al))) q).1) (S.mdL nl (fun q => tl (q + al))).length)) true := s8h al nl ml tl am nm mm tm ht (by omega) true (.inl rfl) (S.leaL (fun q => (S.at' (S.mdL nl (fun q => tl (q + al))) q).1) (S.mdL nl (fun q => tl (q + al))).length).length 0 (Nat.zero_add _)
      have hx2 : 2 ≤ (S.leaL (fun q => (S.at' (S.mdL nl (fun q => tl (q + al))) q).1) (S.mdL nl (fun q => tl (q + al))).length).length → Comes ((q8 al nl ml tl am nm mm tm)) (.h0 false 0 (S.mdL nl (fun q => tl (q + al))) (S.mkl (S.leaL (fun q => (S.at' (S.mdL nl (fun q => tl (q + al))) q).1) (S.mdL nl (fun q => tl (q + al))).length).length (S.addI (fun q => (S.at' (S.mdL nl (fun q => tl (q + al))) q).1) (fun q => (S.at' (S.mdL nl (fun q => tl (q + al))) q).2.1) (S.leaL (fun q => (S.at' (S.mdL nl (fun q => tl (q + al))) q).1) (S.mdL nl (fun q => tl (q + al))).length))) (S.leaL (fun q => (S.at' (S.mdL nl (fun q => tl (q + al))) q).1) (S.mdL nl (fun q => tl (q + al))).length)) true := fun h => s8h al nl ml tl am nm mm tm ht (by omega) false (.inr h) (S.leaL (fun q => (S.at' (S.mdL nl (fun q => tl (q + al))) q).1) (S.mdL nl (fun q => tl (q + al))).length).length 0 (Nat.zero_add _)
      unfold p8
      simp only [hu, hle, hcm, b1, c1, m1, m2, ht, hby, and_true, true_and]
      clear b1 c1 m1 m2 b3 c3 hcm hle s2 hrem
      generalize S.maxN (fun j => S.at' A1 j) (A1.length - 1) = mx at *
      generalize S.minN (fun j => S.at' A1 j) (A1.length - 1) = mn at *
      generalize (S.remM (S.aptE (fun q => (S.at' (S.mdL nl (fun q => tl (q + al))) q).1) (fun q => (S.at' (S.mdL nl (fun q => tl (q + al))) q).2.2.2) (S.leaL (fun q => (S.at' (S.mdL nl (fun q => tl (q + al))) q).1) (S.mdL nl (fun q => tl (q + al))).length)) (S.leaL (fun q => (S.at' (S.mdL nl (fun q => tl (q + al))) q).1) (S.mdL nl (fun q => tl (q + al))).length).length) = rm at *
      generalize (S.mkl (S.leaL (fun q => (S.at' (S.mdL nl (fun q => tl (q + al))) q).1) (S.mdL nl (fun q => tl (q + al))).length).length (S.addI (fun q => (S.at' (S.mdL nl (fun q => tl (q + al))) q).1) (fun q => (S.at' (S.mdL nl (fun q => tl (q + al))) q).2.1) (S.leaL (fun q => (S.at' (S.mdL nl (fun q => tl (q + al))) q).1) (S.mdL nl (fun q => tl (q + al))).length))) = AD at *
      generalize (S.leaL (fun q => (S.at' (S.mdL nl (fun q => tl (q + al))) q).1) (S.mdL nl (fun q => tl (q + al))).length) = EE at *
      repeat' first
        | with_reducible refine goes_if (fun h => ?_) (fun h => ?_) <;> (try simp only [lim64, decide_eq_true_eq, decide_eq_false_iff_not, Int.toNat_natCast, toNat_pred, toNat_succ, Option.getD_some, Option.getD_none, Bool.not_eq_true', Bool.not_eq_false', Bool.and_eq_true, Bool.or_eq_true, Bool.and_eq_false_iff, Bool.or_eq_false_iff, bne_iff_ne, beq_iff_eq, bne_eq_false_iff_eq, beq_eq_false_iff_ne, ne_eq, not_and, Int.not_le, Int.not_lt, ge_iff_le, gt_iff_lt, Nat.not_lt, Nat.not_le, Bool.not_eq_true, Bool.not_eq_false, Bool.true_eq_false, Bool.false_eq_true, not_false_eq_true, not_true_eq_false] at h)
        | exact goes_none.mpr (by omega)
      all_goals first | (exfalso; omega) | exact hx1 | exact hx2 (by omega) | (exfalso; simp_all; done)
    · unfold p8
      repeat' first
        | with_reducible exact goes_inr.mpr rfl
        | (refine goes_no ?_ ?_; focus (apply decide_eq_false; omega))
        | (refine goes_ok ?_ ?_; focus (apply decide_eq_true; omega))
  · unfold p8
    repeat' first
      | with_reducible exact goes_inr.mpr rfl
      | (refine goes_no ?_ ?_; focus (apply decide_eq_false; omega))
      | (refine goes_ok ?_ ?_; focus (apply decide_eq_true; omega))

theorem k8_ok : k8.ok Try.prog := by
  intro x hx
  obtain ⟨⟨al, nl, ml, tl, _⟩, ⟨am, nm, mm, tm, _⟩, _⟩ := x
  obtain ⟨h1, h2⟩ := a8 al nl ml tl am nm mm tm (s8 al nl ml tl am nm mm tm (of_dec hx rfl))
  exact ⟨⟨400, (by decide : 2 + 1 + 0 ≤ 400), h1⟩, h2⟩

theorem pre8 {x : SsI k8.ss} (hx : ssFits k8.ss x) : (0 + x.1.1 ≤ x.1.1) ∧ (0 + x.2.1.1 ≤ x.2.1.1) ∧ (S.u32s x.1.1 fun j => x.1.2.1 (j + 0)) = true ∧ (S.bytes x.2.1.1 fun j => x.2.1.2.1 (j + 0)) = true := by
  obtain ⟨⟨n, t, u'⟩, ⟨m, t2, u2⟩, u''⟩ := x
  obtain ⟨⟨hn, ht, -⟩, ⟨hn2, ht2, -⟩, -⟩ := hx
  exact ⟨Nat.le_of_eq (Nat.zero_add _), Nat.le_of_eq (Nat.zero_add _), u32s_mk ht, bytes_mk ht2⟩

end Go.Ev
