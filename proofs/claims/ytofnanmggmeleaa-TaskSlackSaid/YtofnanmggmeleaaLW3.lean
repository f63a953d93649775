/-
  The law of Response.
-/
import Derived.Test.YtofnanmggmeleaaLX
namespace Go.Ev
open Go.Proofs
set_option linter.unusedVariables false
set_option linter.unusedSimpArgs false
set_option maxRecDepth 100000

/-- Below a number that is not exceeded there is a fixed point. -/
theorem fix_below {f : Int → Int} (hm : ∀ a b : Int, 0 ≤ a → a ≤ b → f a ≤ f b) (h1 : ∀ a : Int, 0 ≤ a → a ≤ 1000000 → 1 ≤ f a) : ∀ (k : Nat) (u : Int), u.toNat ≤ k → 1 ≤ u → u ≤ 1000000 → f u ≤ u → ∃ w, 1 ≤ w ∧ w ≤ u ∧ f w = w
  | 0, u, hk, h2, _, _ => by omega
  | k + 1, u, hk, h2, h3, h4 => by
    by_cases he : f u = u
    · exact ⟨u, h2, Int.le_refl _, he⟩
    · have h5 := h1 u (by omega) h3
      obtain ⟨w, w1, w2, w3⟩ := fix_below hm h1 k (f u) (by omega) h5 (by omega) (hm _ _ (by omega) h4)
      exact ⟨w, w1, by omega, w3⟩
theorem res_ok {n : Nat} {p c d : Nat → Int} (hT : S.okT n p c d = true) {i : Nat} (hi : i < n) : (∀ u : Int, 1 ≤ u → u ≤ d i → S.dem p c i u ≤ u → (S.resT p c d i).2 = true ∧ (S.resT p c d i).1 ≤ u) ∧ ((S.resT p c d i).2 = true → 1 ≤ (S.resT p c d i).1 ∧ (S.resT p c d i).1 ≤ d i ∧ S.dem p c i (S.resT p c d i).1 = (S.resT p c d i).1) := by
  have hA := (okT_at hT).2 i hi
  refine ⟨fun u h1 h2 h3 => ?_, fun h => ?_⟩
  · obtain ⟨w, w1, w2, w3⟩ := fix_below (f := fun t => S.dem p c i t) (fun a b h1 h2 => dem_mono hT hi h1 h2) (fun a h1 h2 => by have := (dem_b hT hi h1 h2).1; show 1 ≤ S.dem p c i a; omega) u.toNat u (Nat.le_refl _) h1 (by omega) h3
    obtain ⟨q1, q2⟩ := fixF_le (f := fun t => S.dem p c i t) (k := (d i).toNat) (t := 1) w1 (by omega) w3
    refine ⟨q1, ?_⟩
    have : (S.resT p c d i).1 ≤ w := q2
    omega
  · obtain ⟨q1, q2, q3⟩ := fixF_some (f := fun t => S.dem p c i t) (k := (d i).toNat) (t := 1) h
    exact ⟨q1, by have : (S.resT p c d i).1 < 1 + ((d i).toNat : Int) := q2; omega, q3⟩
theorem rsp_ok {e : Int} {n : Nat} {i : Int} {r : Int × Bool} (h : (S.rspS e n i r).2 = 0) : e = 0 ∧ (0 ≤ i ∧ i < n) ∧ r.2 = true ∧ (S.rspS e n i r).1 = r.1 := by
  unfold S.rspS at h ⊢
  split at h
  · rename_i he
    rw [if_pos he]
    split at h
    · rename_i hi
      rw [if_pos hi]
      split at h
      · rename_i hr
        rw [if_pos hr]
        exact ⟨he, hi, hr, rfl⟩
      · cases h
    · cases h
  · exact absurd h (by assumption)
abbrev St3 := Empty
abbrev Rt3 := Bool
noncomputable def V3 (al nl ml : Nat) (tl : Nat → ByteArray) (vl : Nat → Int) (gl : Nat → Int) (wl : Nat → Int) (ci : Int) (r : Rt3) : PV := PV.bool r
noncomputable def N3 (al nl ml : Nat) (tl : Nat → ByteArray) (vl : Nat → Int) (gl : Nat → Int) (wl : Nat → Int) (ci : Int) (r : Rt3) : List Blk := []
noncomputable def I3 (al nl ml : Nat) (tl : Nat → ByteArray) (vl : Nat → Int) (gl : Nat → Int) (wl : Nat → Int) (ci : Int) : St3 → Hd := fun s => s.elim
noncomputable def q3 (al nl ml : Nat) (tl : Nat → ByteArray) (vl : Nat → Int) (gl : Nat → Int) (wl : Nat → Int) (ci : Int) : St3 → Option (St3 ⊕ Rt3) := fun s => s.elim
noncomputable def p3 (al nl ml : Nat) (tl : Nat → ByteArray) (vl : Nat → Int) (gl : Nat → Int) (wl : Nat → Int) (ci : Int) : Option (St3 ⊕ Rt3) := bif (decide (al + nl ≤ ml))
 then (bif (S.fewT nl fun (j : Nat) => tl (j + al))
 then (bif (decide (al + nl ≤ ml ∧ nl ≤ 1000000))
 then (bif (decide (0 + nl ≤ nl))
 then (bif ((S.tskS nl (fun (j : Nat) => tl (j + al)) (fun (j : Nat) => vl (j + al)) (fun (j : Nat) => gl (j + al))
 fun (j : Nat) => wl (j + al)) !=
 S.tskS nl (fun (j : Nat) => tl (j + al)) (fun (j : Nat) => vl (j + al)) (fun (j : Nat) => gl (j + al))
 fun (j : Nat) => wl (j + al))
 then (bif ((S.tskS nl (fun (j : Nat) => tl (j + al)) (fun (j : Nat) => vl (j + al)) (fun (j : Nat) => gl (j + al))
 fun (j : Nat) => wl (j + al)) ==
 S.tskS nl (fun (j : Nat) => tl (j + al)) (fun (j : Nat) => vl (j + al)) (fun (j : Nat) => gl (j + al))
 fun (j : Nat) => wl (j + al))
 then (bif (Prod.fst
 (S.rspS
 (S.tskS nl (fun (j : Nat) => tl (j + al)) (fun (j : Nat) => vl (j + al)) (fun (j : Nat) => gl (j + al))
 fun (j : Nat) => wl (j + al))
 nl ci
 (S.resT (fun (j : Nat) => vl (j + al)) (fun (j : Nat) => gl (j + al)) (fun (j : Nat) => wl (j + al))
 (Int.toNat ci))) ==
 Prod.fst
 (S.rspS
 (S.tskS nl (fun (j : Nat) => tl (j + al)) (fun (j : Nat) => vl (j + al)) (fun (j : Nat) => gl (j + al))
 fun (j : Nat) => wl (j + al))
 nl ci
 (S.resT (fun (j : Nat) => vl (j + al)) (fun (j : Nat) => gl (j + al)) (fun (j : Nat) => wl (j + al))
 (Int.toNat ci))))
 then (bif (Prod.snd
 (S.rspS
 (S.tskS nl (fun (j : Nat) => tl (j + al)) (fun (j : Nat) => vl (j + al)) (fun (j : Nat) => gl (j + al))
 fun (j : Nat) => wl (j + al))
 nl ci
 (S.resT (fun (j : Nat) => vl (j + al)) (fun (j : Nat) => gl (j + al)) (fun (j : Nat) => wl (j + al))
 (Int.toNat ci))) ==
 Prod.snd
 (S.rspS
 (S.tskS nl (fun (j : Nat) => tl (j + al)) (fun (j : Nat) => vl (j + al)) (fun (j : Nat) => gl (j + al))
 fun (j : Nat) => wl (j + al))
 nl ci
 (S.resT (fun (j : Nat) => vl (j + al)) (fun (j : Nat) => gl (j + al)) (fun (j : Nat) => wl (j + al))
 (Int.toNat ci))))
 then (some (.inr (true)))
 else (some (.inr (false))))
 else (some (.inr (false))))
 else (some (.inr (false))))
 else (bif (Prod.fst
 (S.rspS
 (S.tskS nl (fun (j : Nat) => tl (j + al)) (fun (j : Nat) => vl (j + al)) (fun (j : Nat) => gl (j + al))
 fun (j : Nat) => wl (j + al))
 nl ci
 (S.resT (fun (j : Nat) => vl (j + al)) (fun (j : Nat) => gl (j + al)) (fun (j : Nat) => wl (j + al))
 (Int.toNat ci))) !=
 Prod.fst
 (S.rspS
 (S.tskS nl (fun (j : Nat) => tl (j + al)) (fun (j : Nat) => vl (j + al)) (fun (j : Nat) => gl (j + al))
 fun (j : Nat) => wl (j + al))
 nl ci
 (S.resT (fun (j : Nat) => vl (j + al)) (fun (j : Nat) => gl (j + al)) (fun (j : Nat) => wl (j + al))
 (Int.toNat ci))))
 then (bif ((S.tskS nl (fun (j : Nat) => tl (j + al)) (fun (j : Nat) => vl (j + al)) (fun (j : Nat) => gl (j + al))
 fun (j : Nat) => wl (j + al)) ==
 S.tskS nl (fun (j : Nat) => tl (j + al)) (fun (j : Nat) => vl (j + al)) (fun (j : Nat) => gl (j + al))
 fun (j : Nat) => wl (j + al))
 then (bif (Prod.fst
 (S.rspS
 (S.tskS nl (fun (j : Nat) => tl (j + al)) (fun (j : Nat) => vl (j + al)) (fun (j : Nat) => gl (j + al))
 fun (j : Nat) => wl (j + al))
 nl ci
 (S.resT (fun (j : Nat) => vl (j + al)) (fun (j : Nat) => gl (j + al)) (fun (j : Nat) => wl (j + al))
 (Int.toNat ci))) ==
 Prod.fst
 (S.rspS
 (S.tskS nl (fun (j : Nat) => tl (j + al)) (fun (j : Nat) => vl (j + al)) (fun (j : Nat) => gl (j + al))
 fun (j : Nat) => wl (j + al))
 nl ci
 (S.resT (fun (j : Nat) => vl (j + al)) (fun (j : Nat) => gl (j + al)) (fun (j : Nat) => wl (j + al))
 (Int.toNat ci))))
 then (bif (Prod.snd
 (S.rspS
 (S.tskS nl (fun (j : Nat) => tl (j + al)) (fun (j : Nat) => vl (j + al)) (fun (j : Nat) => gl (j + al))
 fun (j : Nat) => wl (j + al))
 nl ci
 (S.resT (fun (j : Nat) => vl (j + al)) (fun (j : Nat) => gl (j + al)) (fun (j : Nat) => wl (j + al))
 (Int.toNat ci))) ==
 Prod.snd
 (S.rspS
 (S.tskS nl (fun (j : Nat) => tl (j + al)) (fun (j : Nat) => vl (j + al)) (fun (j : Nat) => gl (j + al))
 fun (j : Nat) => wl (j + al))
 nl ci
 (S.resT (fun (j : Nat) => vl (j + al)) (fun (j : Nat) => gl (j + al)) (fun (j : Nat) => wl (j + al))
 (Int.toNat ci))))
 then (some (.inr (true)))
 else (some (.inr (false))))
 else (some (.inr (false))))
 else (some (.inr (false))))
 else (bif (Prod.snd
 (S.rspS
 (S.tskS nl (fun (j : Nat) => tl (j + al)) (fun (j : Nat) => vl (j + al)) (fun (j : Nat) => gl (j + al))
 fun (j : Nat) => wl (j + al))
 nl ci
 (S.resT (fun (j : Nat) => vl (j + al)) (fun (j : Nat) => gl (j + al)) (fun (j : Nat) => wl (j + al))
 (Int.toNat ci))) !=
 Prod.snd
 (S.rspS
 (S.tskS nl (fun (j : Nat) => tl (j + al)) (fun (j : Nat) => vl (j + al)) (fun (j : Nat) => gl (j + al))
 fun (j : Nat) => wl (j + al))
 nl ci
 (S.resT (fun (j : Nat) => vl (j + al)) (fun (j : Nat) => gl (j + al)) (fun (j : Nat) => wl (j + al))
 (Int.toNat ci))))
 then (bif ((S.tskS nl (fun (j : Nat) => tl (j + al)) (fun (j : Nat) => vl (j + al)) (fun (j : Nat) => gl (j + al))
 fun (j : Nat) => wl (j + al)) ==
 S.tskS nl (fun (j : Nat) => tl (j + al)) (fun (j : Nat) => vl (j + al)) (fun (j : Nat) => gl (j + al))
 fun (j : Nat) => wl (j + al))
 then (bif (Prod.fst
 (S.rspS
 (S.tskS nl (fun (j : Nat) => tl (j + al)) (fun (j : Nat) => vl (j + al)) (fun (j : Nat) => gl (j + al))
 fun (j : Nat) => wl (j + al))
 nl ci
 (S.resT (fun (j : Nat) => vl (j + al)) (fun (j : Nat) => gl (j + al)) (fun (j : Nat) => wl (j + al))
 (Int.toNat ci))) ==
 Prod.fst
 (S.rspS
 (S.tskS nl (fun (j : Nat) => tl (j + al)) (fun (j : Nat) => vl (j + al)) (fun (j : Nat) => gl (j + al))
 fun (j : Nat) => wl (j + al))
 nl ci
 (S.resT (fun (j : Nat) => vl (j + al)) (fun (j : Nat) => gl (j + al)) (fun (j : Nat) => wl (j + al))
 (Int.toNat ci))))
 then (bif (Prod.snd
 (S.rspS
 (S.tskS nl (fun (j : Nat) => tl (j + al)) (fun (j : Nat) => vl (j + al)) (fun (j : Nat) => gl (j + al))
 fun (j : Nat) => wl (j + al))
 nl ci
 (S.resT (fun (j : Nat) => vl (j + al)) (fun (j : Nat) => gl (j + al)) (fun (j : Nat) => wl (j + al))
 (Int.toNat ci))) ==
 Prod.snd
 (S.rspS
 (S.tskS nl (fun (j : Nat) => tl (j + al)) (fun (j : Nat) => vl (j + al)) (fun (j : Nat) => gl (j + al))
 fun (j : Nat) => wl (j + al))
 nl ci
 (S.resT (fun (j : Nat) => vl (j + al)) (fun (j : Nat) => gl (j + al)) (fun (j : Nat) => wl (j + al))
 (Int.toNat ci))))
 then (some (.inr (true)))
 else (some (.inr (false))))
 else (some (.inr (false))))
 else (some (.inr (false))))
 else (bif (Prod.snd
 (S.rspS
 (S.tskS nl (fun (j : Nat) => tl (j + al)) (fun (j : Nat) => vl (j + al)) (fun (j : Nat) => gl (j + al))
 fun (j : Nat) => wl (j + al))
 nl ci
 (S.resT (fun (j : Nat) => vl (j + al)) (fun (j : Nat) => gl (j + al)) (fun (j : Nat) => wl (j + al))
 (Int.toNat ci))) !=
 (0 : Int))
 then (bif ((S.tskS nl (fun (j : Nat) => tl (j + al)) (fun (j : Nat) => vl (j + al)) (fun (j : Nat) => gl (j + al))
 fun (j : Nat) => wl (j + al)) ==
 S.tskS nl (fun (j : Nat) => tl (j + al)) (fun (j : Nat) => vl (j + al)) (fun (j : Nat) => gl (j + al))
 fun (j : Nat) => wl (j + al))
 then (bif (Prod.fst
 (S.rspS
 (S.tskS nl (fun (j : Nat) => tl (j + al)) (fun (j : Nat) => vl (j + al)) (fun (j : Nat) => gl (j + al))
 fun (j : Nat) => wl (j + al))
 nl ci
 (S.resT (fun (j : Nat) => vl (j + al)) (fun (j : Nat) => gl (j + al)) (fun (j : Nat) => wl (j + al))
 (Int.toNat ci))) ==
 Prod.fst
 (S.rspS
 (S.tskS nl (fun (j : Nat) => tl (j + al)) (fun (j : Nat) => vl (j + al)) (fun (j : Nat) => gl (j + al))
 fun (j : Nat) => wl (j + al))
 nl ci
 (S.resT (fun (j : Nat) => vl (j + al)) (fun (j : Nat) => gl (j + al)) (fun (j : Nat) => wl (j + al))
 (Int.toNat ci))))
 then (bif (Prod.snd
 (S.rspS
 (S.tskS nl (fun (j : Nat) => tl (j + al)) (fun (j : Nat) => vl (j + al)) (fun (j : Nat) => gl (j + al))
 fun (j : Nat) => wl (j + al))
 nl ci
 (S.resT (fun (j : Nat) => vl (j + al)) (fun (j : Nat) => gl (j + al)) (fun (j : Nat) => wl (j + al))
 (Int.toNat ci))) ==
 Prod.snd
 (S.rspS
 (S.tskS nl (fun (j : Nat) => tl (j + al)) (fun (j : Nat) => vl (j + al)) (fun (j : Nat) => gl (j + al))
 fun (j : Nat) => wl (j + al))
 nl ci
 (S.resT (fun (j : Nat) => vl (j + al)) (fun (j : Nat) => gl (j + al)) (fun (j : Nat) => wl (j + al))
 (Int.toNat ci))))
 then (some (.inr (true)))
 else (some (.inr (false))))
 else (some (.inr (false))))
 else (some (.inr (false))))
 else (bif (S.chkS
 (S.tskS nl (fun (j : Nat) => tl (j + al)) (fun (j : Nat) => vl (j + al)) (fun (j : Nat) => gl (j + al))
 fun (j : Nat) => wl (j + al))
 nl ci
 (Prod.fst
 (S.rspS
 (S.tskS nl (fun (j : Nat) => tl (j + al)) (fun (j : Nat) => vl (j + al)) (fun (j : Nat) => gl (j + al))
 fun (j : Nat) => wl (j + al))
 nl ci
 (S.resT (fun (j : Nat) => vl (j + al)) (fun (j : Nat) => gl (j + al)) (fun (j : Nat) => wl (j + al))
 (Int.toNat ci))))
 (wl (Int.toNat ci + al))
 (S.dem (fun (j : Nat) => vl (j + al)) (fun (j : Nat) => gl (j + al)) (Int.toNat ci)
 (Prod.fst
 (S.rspS
 (S.tskS nl (fun (j : Nat) => tl (j + al)) (fun (j : Nat) => vl (j + al)) (fun (j : Nat) => gl (j + al))
 fun (j : Nat) => wl (j + al))
 nl ci
 (S.resT (fun (j : Nat) => vl (j + al)) (fun (j : Nat) => gl (j + al)) (fun (j : Nat) => wl (j + al))
 (Int.toNat ci))))))
 then (bif (lim IntKind.i64
 (Prod.fst
 (S.rspS
 (S.tskS nl (fun (j : Nat) => tl (j + al)) (fun (j : Nat) => vl (j + al)) (fun (j : Nat) => gl (j + al))
 fun (j : Nat) => wl (j + al))
 nl ci
 (S.resT (fun (j : Nat) => vl (j + al)) (fun (j : Nat) => gl (j + al)) (fun (j : Nat) => wl (j + al))
 (Int.toNat ci))) -
 (1 : Int)))
 then (bif (S.chkS
 (S.tskS nl (fun (j : Nat) => tl (j + al)) (fun (j : Nat) => vl (j + al)) (fun (j : Nat) => gl (j + al))
 fun (j : Nat) => wl (j + al))
 nl ci
 (Prod.fst
 (S.rspS
 (S.tskS nl (fun (j : Nat) => tl (j + al)) (fun (j : Nat) => vl (j + al)) (fun (j : Nat) => gl (j + al))
 fun (j : Nat) => wl (j + al))
 nl ci
 (S.resT (fun (j : Nat) => vl (j + al)) (fun (j : Nat) => gl (j + al)) (fun (j : Nat) => wl (j + al))
 (Int.toNat ci))) -
 (1 : Int))
 (wl (Int.toNat ci + al))
 (S.dem (fun (j : Nat) => vl (j + al)) (fun (j : Nat) => gl (j + al)) (Int.toNat ci)
 (Prod.fst
 (S.rspS
 (S.tskS nl (fun (j : Nat) => tl (j + al)) (fun (j : Nat) => vl (j + al)) (fun (j : Nat) => gl (j + al))
 fun (j : Nat) => wl (j + al))
 nl ci
 (S.resT (fun (j : Nat) => vl (j + al)) (fun (j : Nat) => gl (j + al)) (fun (j : Nat) => wl (j + al))
 (Int.toNat ci))) -
 (1 : Int))))
 then (some (.inr (false)))
 else (some (.inr (true))))
 else (none))
 else (some (.inr (false))))))))
 else (none))
 else (none))
 else (some (.inr (true))))
 else (none)
noncomputable def Te3 (test : Bool → Prop → Prop → Prop) (Kst : KS) (Kret : KR) (al nl ml : Nat) (tl : Nat → ByteArray) (vl : Nat → Int) (gl : Nat → Int) (wl : Nat → Int) (ci : Int) : Prop :=
  test (true)
 (test (true)
 (test (decide (al + nl ≤ ml))
 (test (S.fewT nl fun (j : Nat) => tl (j + al))
 (test (decide (al + nl ≤ ml ∧ nl ≤ 1000000))
 (test (decide (0 + nl ≤ nl))
 (test (decide (al + nl ≤ ml))
 (test (decide (al + nl ≤ ml))
 (test (decide (al + nl ≤ ml))
 (test ((S.tskS nl (fun (j : Nat) => tl (j + al)) (fun (j : Nat) => vl (j + al)) (fun (j : Nat) => gl (j + al))
 fun (j : Nat) => wl (j + al)) !=
 S.tskS nl (fun (j : Nat) => tl (j + al)) (fun (j : Nat) => vl (j + al)) (fun (j : Nat) => gl (j + al))
 fun (j : Nat) => wl (j + al))
 (test (decide (al + nl ≤ ml))
 (test (decide (al + nl ≤ ml))
 (test ((S.tskS nl (fun (j : Nat) => tl (j + al)) (fun (j : Nat) => vl (j + al)) (fun (j : Nat) => gl (j + al))
 fun (j : Nat) => wl (j + al)) ==
 S.tskS nl (fun (j : Nat) => tl (j + al)) (fun (j : Nat) => vl (j + al)) (fun (j : Nat) => gl (j + al))
 fun (j : Nat) => wl (j + al))
 (test (Prod.fst
 (S.rspS
 (S.tskS nl (fun (j : Nat) => tl (j + al)) (fun (j : Nat) => vl (j + al)) (fun (j : Nat) => gl (j + al))
 fun (j : Nat) => wl (j + al))
 nl ci
 (S.resT (fun (j : Nat) => vl (j + al)) (fun (j : Nat) => gl (j + al)) (fun (j : Nat) => wl (j + al))
 (Int.toNat ci))) ==
 Prod.fst
 (S.rspS
 (S.tskS nl (fun (j : Nat) => tl (j + al)) (fun (j : Nat) => vl (j + al)) (fun (j : Nat) => gl (j + al))
 fun (j : Nat) => wl (j + al))
 nl ci
 (S.resT (fun (j : Nat) => vl (j + al)) (fun (j : Nat) => gl (j + al)) (fun (j : Nat) => wl (j + al))
 (Int.toNat ci))))
 (test (Prod.snd
 (S.rspS
 (S.tskS nl (fun (j : Nat) => tl (j + al)) (fun (j : Nat) => vl (j + al)) (fun (j : Nat) => gl (j + al))
 fun (j : Nat) => wl (j + al))
 nl ci
 (S.resT (fun (j : Nat) => vl (j + al)) (fun (j : Nat) => gl (j + al)) (fun (j : Nat) => wl (j + al))
 (Int.toNat ci))) ==
 Prod.snd
 (S.rspS
 (S.tskS nl (fun (j : Nat) => tl (j + al)) (fun (j : Nat) => vl (j + al)) (fun (j : Nat) => gl (j + al))
 fun (j : Nat) => wl (j + al))
 nl ci
 (S.resT (fun (j : Nat) => vl (j + al)) (fun (j : Nat) => gl (j + al)) (fun (j : Nat) => wl (j + al))
 (Int.toNat ci))))
 (Kret (PV.tf true) ([[(0, false,
 Blk.cols ml
 [Col.str tl, Col.int IntKind.i64 vl, Col.int IntKind.i64 gl,
 Col.int IntKind.i64 wl])]]) (11))
 (Kret (PV.tf false) ([[(0, false,
 Blk.cols ml
 [Col.str tl, Col.int IntKind.i64 vl, Col.int IntKind.i64 gl,
 Col.int IntKind.i64 wl])]]) (11)))
 (Kret (PV.tf false) ([[(0, false,
 Blk.cols ml
 [Col.str tl, Col.int IntKind.i64 vl, Col.int IntKind.i64 gl,
 Col.int IntKind.i64 wl])]]) (11)))
 (Kret (PV.tf false) ([[(0, false,
 Blk.cols ml
 [Col.str tl, Col.int IntKind.i64 vl, Col.int IntKind.i64 gl,
 Col.int IntKind.i64 wl])]]) (11)))
 (False))
 (False))
 (test (Prod.fst
 (S.rspS
 (S.tskS nl (fun (j : Nat) => tl (j + al)) (fun (j : Nat) => vl (j + al)) (fun (j : Nat) => gl (j + al))
 fun (j : Nat) => wl (j + al))
 nl ci
 (S.resT (fun (j : Nat) => vl (j + al)) (fun (j : Nat) => gl (j + al)) (fun (j : Nat) => wl (j + al))
 (Int.toNat ci))) !=
 Prod.fst
 (S.rspS
 (S.tskS nl (fun (j : Nat) => tl (j + al)) (fun (j : Nat) => vl (j + al)) (fun (j : Nat) => gl (j + al))
 fun (j : Nat) => wl (j + al))
 nl ci
 (S.resT (fun (j : Nat) => vl (j + al)) (fun (j : Nat) => gl (j + al)) (fun (j : Nat) => wl (j + al))
 (Int.toNat ci))))
 (test (decide (al + nl ≤ ml))
 (test (decide (al + nl ≤ ml))
 (test ((S.tskS nl (fun (j : Nat) => tl (j + al)) (fun (j : Nat) => vl (j + al)) (fun (j : Nat) => gl (j + al))
 fun (j : Nat) => wl (j + al)) ==
 S.tskS nl (fun (j : Nat) => tl (j + al)) (fun (j : Nat) => vl (j + al)) (fun (j : Nat) => gl (j + al))
 fun (j : Nat) => wl (j + al))
 (test (Prod.fst
 (S.rspS
 (S.tskS nl (fun (j : Nat) => tl (j + al)) (fun (j : Nat) => vl (j + al)) (fun (j : Nat) => gl (j + al))
 fun (j : Nat) => wl (j + al))
 nl ci
 (S.resT (fun (j : Nat) => vl (j + al)) (fun (j : Nat) => gl (j + al)) (fun (j : Nat) => wl (j + al))
 (Int.toNat ci))) ==
 Prod.fst
 (S.rspS
 (S.tskS nl (fun (j : Nat) => tl (j + al)) (fun (j : Nat) => vl (j + al)) (fun (j : Nat) => gl (j + al))
 fun (j : Nat) => wl (j + al))
 nl ci
 (S.resT (fun (j : Nat) => vl (j + al)) (fun (j : Nat) => gl (j + al)) (fun (j : Nat) => wl (j + al))
 (Int.toNat ci))))
 (test (Prod.snd
 (S.rspS
 (S.tskS nl (fun (j : Nat) => tl (j + al)) (fun (j : Nat) => vl (j + al)) (fun (j : Nat) => gl (j + al))
 fun (j : Nat) => wl (j + al))
 nl ci
 (S.resT (fun (j : Nat) => vl (j + al)) (fun (j : Nat) => gl (j + al)) (fun (j : Nat) => wl (j + al))
 (Int.toNat ci))) ==
 Prod.snd
 (S.rspS
 (S.tskS nl (fun (j : Nat) => tl (j + al)) (fun (j : Nat) => vl (j + al)) (fun (j : Nat) => gl (j + al))
 fun (j : Nat) => wl (j + al))
 nl ci
 (S.resT (fun (j : Nat) => vl (j + al)) (fun (j : Nat) => gl (j + al)) (fun (j : Nat) => wl (j + al))
 (Int.toNat ci))))
 (Kret (PV.tf true) ([[(0, false,
 Blk.cols ml
 [Col.str tl, Col.int IntKind.i64 vl, Col.int IntKind.i64 gl,
 Col.int IntKind.i64 wl])]]) (11))
 (Kret (PV.tf false) ([[(0, false,
 Blk.cols ml
 [Col.str tl, Col.int IntKind.i64 vl, Col.int IntKind.i64 gl,
 Col.int IntKind.i64 wl])]]) (11)))
 (Kret (PV.tf false) ([[(0, false,
 Blk.cols ml
 [Col.str tl, Col.int IntKind.i64 vl, Col.int IntKind.i64 gl,
 Col.int IntKind.i64 wl])]]) (11)))
 (Kret (PV.tf false) ([[(0, false,
 Blk.cols ml
 [Col.str tl, Col.int IntKind.i64 vl, Col.int IntKind.i64 gl,
 Col.int IntKind.i64 wl])]]) (11)))
 (False))
 (False))
 (test (Prod.snd
 (S.rspS
 (S.tskS nl (fun (j : Nat) => tl (j + al)) (fun (j : Nat) => vl (j + al)) (fun (j : Nat) => gl (j + al))
 fun (j : Nat) => wl (j + al))
 nl ci
 (S.resT (fun (j : Nat) => vl (j + al)) (fun (j : Nat) => gl (j + al)) (fun (j : Nat) => wl (j + al))
 (Int.toNat ci))) !=
 Prod.snd
 (S.rspS
 (S.tskS nl (fun (j : Nat) => tl (j + al)) (fun (j : Nat) => vl (j + al)) (fun (j : Nat) => gl (j + al))
 fun (j : Nat) => wl (j + al))
 nl ci
 (S.resT (fun (j : Nat) => vl (j + al)) (fun (j : Nat) => gl (j + al)) (fun (j : Nat) => wl (j + al))
 (Int.toNat ci))))
 (test (decide (al + nl ≤ ml))
 (test (decide (al + nl ≤ ml))
 (test ((S.tskS nl (fun (j : Nat) => tl (j + al)) (fun (j : Nat) => vl (j + al)) (fun (j : Nat) => gl (j + al))
 fun (j : Nat) => wl (j + al)) ==
 S.tskS nl (fun (j : Nat) => tl (j + al)) (fun (j : Nat) => vl (j + al)) (fun (j : Nat) => gl (j + al))
 fun (j : Nat) => wl (j + al))
 (test (Prod.fst
 (S.rspS
 (S.tskS nl (fun (j : Nat) => tl (j + al)) (fun (j : Nat) => vl (j + al)) (fun (j : Nat) => gl (j + al))
 fun (j : Nat) => wl (j + al))
 nl ci
 (S.resT (fun (j : Nat) => vl (j + al)) (fun (j : Nat) => gl (j + al)) (fun (j : Nat) => wl (j + al))
 (Int.toNat ci))) ==
 Prod.fst
 (S.rspS
 (S.tskS nl (fun (j : Nat) => tl (j + al)) (fun (j : Nat) => vl (j + al)) (fun (j : Nat) => gl (j + al))
 fun (j : Nat) => wl (j + al))
 nl ci
 (S.resT (fun (j : Nat) => vl (j + al)) (fun (j : Nat) => gl (j + al)) (fun (j : Nat) => wl (j + al))
 (Int.toNat ci))))
 (test (Prod.snd
 (S.rspS
 (S.tskS nl (fun (j : Nat) => tl (j + al)) (fun (j : Nat) => vl (j + al)) (fun (j : Nat) => gl (j + al))
 fun (j : Nat) => wl (j + al))
 nl ci
 (S.resT (fun (j : Nat) => vl (j + al)) (fun (j : Nat) => gl (j + al)) (fun (j : Nat) => wl (j + al))
 (Int.toNat ci))) ==
 Prod.snd
 (S.rspS
 (S.tskS nl (fun (j : Nat) => tl (j + al)) (fun (j : Nat) => vl (j + al)) (fun (j : Nat) => gl (j + al))
 fun (j : Nat) => wl (j + al))
 nl ci
 (S.resT (fun (j : Nat) => vl (j + al)) (fun (j : Nat) => gl (j + al)) (fun (j : Nat) => wl (j + al))
 (Int.toNat ci))))
 (Kret (PV.tf true) ([[(0, false,
 Blk.cols ml
 [Col.str tl, Col.int IntKind.i64 vl, Col.int IntKind.i64 gl,
 Col.int IntKind.i64 wl])]]) (11))
 (Kret (PV.tf false) ([[(0, false,
 Blk.cols ml
 [Col.str tl, Col.int IntKind.i64 vl, Col.int IntKind.i64 gl,
 Col.int IntKind.i64 wl])]]) (11)))
 (Kret (PV.tf false) ([[(0, false,
 Blk.cols ml
 [Col.str tl, Col.int IntKind.i64 vl, Col.int IntKind.i64 gl,
 Col.int IntKind.i64 wl])]]) (11)))
 (Kret (PV.tf false) ([[(0, false,
 Blk.cols ml
 [Col.str tl, Col.int IntKind.i64 vl, Col.int IntKind.i64 gl,
 Col.int IntKind.i64 wl])]]) (11)))
 (False))
 (False))
 (test (Prod.snd
 (S.rspS
 (S.tskS nl (fun (j : Nat) => tl (j + al)) (fun (j : Nat) => vl (j + al)) (fun (j : Nat) => gl (j + al))
 fun (j : Nat) => wl (j + al))
 nl ci
 (S.resT (fun (j : Nat) => vl (j + al)) (fun (j : Nat) => gl (j + al)) (fun (j : Nat) => wl (j + al))
 (Int.toNat ci))) !=
 (0 : Int))
 (test (decide (al + nl ≤ ml))
 (test (decide (al + nl ≤ ml))
 (test ((S.tskS nl (fun (j : Nat) => tl (j + al)) (fun (j : Nat) => vl (j + al)) (fun (j : Nat) => gl (j + al))
 fun (j : Nat) => wl (j + al)) ==
 S.tskS nl (fun (j : Nat) => tl (j + al)) (fun (j : Nat) => vl (j + al)) (fun (j : Nat) => gl (j + al))
 fun (j : Nat) => wl (j + al))
 (test (Prod.fst
 (S.rspS
 (S.tskS nl (fun (j : Nat) => tl (j + al)) (fun (j : Nat) => vl (j + al)) (fun (j : Nat) => gl (j + al))
 fun (j : Nat) => wl (j + al))
 nl ci
 (S.resT (fun (j : Nat) => vl (j + al)) (fun (j : Nat) => gl (j + al)) (fun (j : Nat) => wl (j + al))
 (Int.toNat ci))) ==
 Prod.fst
 (S.rspS
 (S.tskS nl (fun (j : Nat) => tl (j + al)) (fun (j : Nat) => vl (j + al)) (fun (j : Nat) => gl (j + al))
 fun (j : Nat) => wl (j + al))
 nl ci
 (S.resT (fun (j : Nat) => vl (j + al)) (fun (j : Nat) => gl (j + al)) (fun (j : Nat) => wl (j + al))
 (Int.toNat ci))))
 (test (Prod.snd
 (S.rspS
 (S.tskS nl (fun (j : Nat) => tl (j + al)) (fun (j : Nat) => vl (j + al)) (fun (j : Nat) => gl (j + al))
 fun (j : Nat) => wl (j + al))
 nl ci
 (S.resT (fun (j : Nat) => vl (j + al)) (fun (j : Nat) => gl (j + al)) (fun (j : Nat) => wl (j + al))
 (Int.toNat ci))) ==
 Prod.snd
 (S.rspS
 (S.tskS nl (fun (j : Nat) => tl (j + al)) (fun (j : Nat) => vl (j + al)) (fun (j : Nat) => gl (j + al))
 fun (j : Nat) => wl (j + al))
 nl ci
 (S.resT (fun (j : Nat) => vl (j + al)) (fun (j : Nat) => gl (j + al)) (fun (j : Nat) => wl (j + al))
 (Int.toNat ci))))
 (Kret (PV.tf true) ([[(0, false,
 Blk.cols ml
 [Col.str tl, Col.int IntKind.i64 vl, Col.int IntKind.i64 gl,
 Col.int IntKind.i64 wl])]]) (11))
 (Kret (PV.tf false) ([[(0, false,
 Blk.cols ml
 [Col.str tl, Col.int IntKind.i64 vl, Col.int IntKind.i64 gl,
 Col.int IntKind.i64 wl])]]) (11)))
 (Kret (PV.tf false) ([[(0, false,
 Blk.cols ml
 [Col.str tl, Col.int IntKind.i64 vl, Col.int IntKind.i64 gl,
 Col.int IntKind.i64 wl])]]) (11)))
 (Kret (PV.tf false) ([[(0, false,
 Blk.cols ml
 [Col.str tl, Col.int IntKind.i64 vl, Col.int IntKind.i64 gl,
 Col.int IntKind.i64 wl])]]) (11)))
 (False))
 (False))
 (test (decide (al + nl ≤ ml))
 (test (S.chkS
 (S.tskS nl (fun (j : Nat) => tl (j + al)) (fun (j : Nat) => vl (j + al)) (fun (j : Nat) => gl (j + al))
 fun (j : Nat) => wl (j + al))
 nl ci
 (Prod.fst
 (S.rspS
 (S.tskS nl (fun (j : Nat) => tl (j + al)) (fun (j : Nat) => vl (j + al)) (fun (j : Nat) => gl (j + al))
 fun (j : Nat) => wl (j + al))
 nl ci
 (S.resT (fun (j : Nat) => vl (j + al)) (fun (j : Nat) => gl (j + al)) (fun (j : Nat) => wl (j + al))
 (Int.toNat ci))))
 (wl (Int.toNat ci + al))
 (S.dem (fun (j : Nat) => vl (j + al)) (fun (j : Nat) => gl (j + al)) (Int.toNat ci)
 (Prod.fst
 (S.rspS
 (S.tskS nl (fun (j : Nat) => tl (j + al)) (fun (j : Nat) => vl (j + al)) (fun (j : Nat) => gl (j + al))
 fun (j : Nat) => wl (j + al))
 nl ci
 (S.resT (fun (j : Nat) => vl (j + al)) (fun (j : Nat) => gl (j + al)) (fun (j : Nat) => wl (j + al))
 (Int.toNat ci))))))
 (test (lim IntKind.i64
 (Prod.fst
 (S.rspS
 (S.tskS nl (fun (j : Nat) => tl (j + al)) (fun (j : Nat) => vl (j + al)) (fun (j : Nat) => gl (j + al))
 fun (j : Nat) => wl (j + al))
 nl ci
 (S.resT (fun (j : Nat) => vl (j + al)) (fun (j : Nat) => gl (j + al)) (fun (j : Nat) => wl (j + al))
 (Int.toNat ci))) -
 (1 : Int)))
 (test (decide (al + nl ≤ ml))
 (test (S.chkS
 (S.tskS nl (fun (j : Nat) => tl (j + al)) (fun (j : Nat) => vl (j + al)) (fun (j : Nat) => gl (j + al))
 fun (j : Nat) => wl (j + al))
 nl ci
 (Prod.fst
 (S.rspS
 (S.tskS nl (fun (j : Nat) => tl (j + al)) (fun (j : Nat) => vl (j + al)) (fun (j : Nat) => gl (j + al))
 fun (j : Nat) => wl (j + al))
 nl ci
 (S.resT (fun (j : Nat) => vl (j + al)) (fun (j : Nat) => gl (j + al)) (fun (j : Nat) => wl (j + al))
 (Int.toNat ci))) -
 (1 : Int))
 (wl (Int.toNat ci + al))
 (S.dem (fun (j : Nat) => vl (j + al)) (fun (j : Nat) => gl (j + al)) (Int.toNat ci)
 (Prod.fst
 (S.rspS
 (S.tskS nl (fun (j : Nat) => tl (j + al)) (fun (j : Nat) => vl (j + al)) (fun (j : Nat) => gl (j + al))
 fun (j : Nat) => wl (j + al))
 nl ci
 (S.resT (fun (j : Nat) => vl (j + al)) (fun (j : Nat) => gl (j + al)) (fun (j : Nat) => wl (j + al))
 (Int.toNat ci))) -
 (1 : Int))))
 (Kret (PV.tf false) ([[(0, false,
 Blk.cols ml
 [Col.str tl, Col.int IntKind.i64 vl, Col.int IntKind.i64 gl,
 Col.int IntKind.i64 wl])]]) (11))
 (Kret (PV.tf true) ([[(0, false,
 Blk.cols ml
 [Col.str tl, Col.int IntKind.i64 vl, Col.int IntKind.i64 gl,
 Col.int IntKind.i64 wl])]]) (11)))
 (False))
 (False))
 (Kret (PV.tf false) ([[(0, false,
 Blk.cols ml
 [Col.str tl, Col.int IntKind.i64 vl, Col.int IntKind.i64 gl,
 Col.int IntKind.i64 wl])]]) (10)))
 (False))))))
 (False))
 (False))
 (False))
 (False))
 (False))
 (test (true)
 (test (true)
 (Kret (PV.tf true) ([[(0, false,
 Blk.cols ml
 [Col.str tl, Col.int IntKind.i64 vl, Col.int IntKind.i64 gl,
 Col.int IntKind.i64 wl])]]) (4))
 (Kret (PV.tf false) ([[(0, false,
 Blk.cols ml
 [Col.str tl, Col.int IntKind.i64 vl, Col.int IntKind.i64 gl,
 Col.int IntKind.i64 wl])]]) (4)))
 (False)))
 (False))
 (test (true)
 (test (true)
 (Kret (PV.tf true) ([[(0, false,
 Blk.cols ml
 [Col.str tl, Col.int IntKind.i64 vl, Col.int IntKind.i64 gl,
 Col.int IntKind.i64 wl])]]) (3))
 (Kret (PV.tf false) ([[(0, false,
 Blk.cols ml
 [Col.str tl, Col.int IntKind.i64 vl, Col.int IntKind.i64 gl,
 Col.int IntKind.i64 wl])]]) (3)))
 (False)))
 (False)
set_option maxRecDepth 100000 in
theorem te3 (test : Bool → Prop → Prop → Prop) (Kst : KS) (Kret : KR) (al nl ml : Nat) (tl : Nat → ByteArray) (vl : Nat → Int) (gl : Nat → Int) (wl : Nat → Int) (ci : Int) : run test Try.env true (xL3 test) true 400 ⟨3, [.cd (mkFn Try.f3).body], argT 0 [.loose ⟨0, 4, al, 0⟩ nl, .int .i64 ci], [[], [(0, (false, .cols ml [.str tl, .int .i64 vl, .int .i64 gl, .int .i64 wl]))]], 1⟩ (proj 1 [] Kst Kret) =
  Te3 test Kst Kret al nl ml tl vl gl wl ci := by kernel_rfl
attribute [local irreducible] Int.subNatNat in
set_option maxRecDepth 100000 in
theorem be3 (al nl ml : Nat) (tl : Nat → ByteArray) (vl : Nat → Int) (gl : Nat → Int) (wl : Nat → Int) (ci : Int) (Kst : KS) (Kret : KR) (x : St3 ⊕ Rt3) (hS : HS 1 400 ((I3 al nl ml tl vl gl wl ci)) Kst x) (hR : HR 1 400 ((V3 al nl ml tl vl gl wl ci)) (fun r => [newL (1 + 1) ((N3 al nl ml tl vl gl wl ci) r) ++ [(0, (false, .cols ml [.str tl, .int .i64 vl, .int .i64 gl, .int .i64 wl]))]]) Kret x) (h : (bif (decide (al + nl ≤ ml))
 then (bif (S.fewT nl fun (j : Nat) => tl (j + al))
 then (bif (decide (al + nl ≤ ml ∧ nl ≤ 1000000))
 then (bif (decide (0 + nl ≤ nl))
 then (bif ((S.tskS nl (fun (j : Nat) => tl (j + al)) (fun (j : Nat) => vl (j + al)) (fun (j : Nat) => gl (j + al))
 fun (j : Nat) => wl (j + al)) !=
 S.tskS nl (fun (j : Nat) => tl (j + al)) (fun (j : Nat) => vl (j + al)) (fun (j : Nat) => gl (j + al))
 fun (j : Nat) => wl (j + al))
 then (bif ((S.tskS nl (fun (j : Nat) => tl (j + al)) (fun (j : Nat) => vl (j + al)) (fun (j : Nat) => gl (j + al))
 fun (j : Nat) => wl (j + al)) ==
 S.tskS nl (fun (j : Nat) => tl (j + al)) (fun (j : Nat) => vl (j + al)) (fun (j : Nat) => gl (j + al))
 fun (j : Nat) => wl (j + al))
 then (bif (Prod.fst
 (S.rspS
 (S.tskS nl (fun (j : Nat) => tl (j + al)) (fun (j : Nat) => vl (j + al)) (fun (j : Nat) => gl (j + al))
 fun (j : Nat) => wl (j + al))
 nl ci
 (S.resT (fun (j : Nat) => vl (j + al)) (fun (j : Nat) => gl (j + al)) (fun (j : Nat) => wl (j + al))
 (Int.toNat ci))) ==
 Prod.fst
 (S.rspS
 (S.tskS nl (fun (j : Nat) => tl (j + al)) (fun (j : Nat) => vl (j + al)) (fun (j : Nat) => gl (j + al))
 fun (j : Nat) => wl (j + al))
 nl ci
 (S.resT (fun (j : Nat) => vl (j + al)) (fun (j : Nat) => gl (j + al)) (fun (j : Nat) => wl (j + al))
 (Int.toNat ci))))
 then (bif (Prod.snd
 (S.rspS
 (S.tskS nl (fun (j : Nat) => tl (j + al)) (fun (j : Nat) => vl (j + al)) (fun (j : Nat) => gl (j + al))
 fun (j : Nat) => wl (j + al))
 nl ci
 (S.resT (fun (j : Nat) => vl (j + al)) (fun (j : Nat) => gl (j + al)) (fun (j : Nat) => wl (j + al))
 (Int.toNat ci))) ==
 Prod.snd
 (S.rspS
 (S.tskS nl (fun (j : Nat) => tl (j + al)) (fun (j : Nat) => vl (j + al)) (fun (j : Nat) => gl (j + al))
 fun (j : Nat) => wl (j + al))
 nl ci
 (S.resT (fun (j : Nat) => vl (j + al)) (fun (j : Nat) => gl (j + al)) (fun (j : Nat) => wl (j + al))
 (Int.toNat ci))))
 then (some (.inr (true)))
 else (some (.inr (false))))
 else (some (.inr (false))))
 else (some (.inr (false))))
 else (bif (Prod.fst
 (S.rspS
 (S.tskS nl (fun (j : Nat) => tl (j + al)) (fun (j : Nat) => vl (j + al)) (fun (j : Nat) => gl (j + al))
 fun (j : Nat) => wl (j + al))
 nl ci
 (S.resT (fun (j : Nat) => vl (j + al)) (fun (j : Nat) => gl (j + al)) (fun (j : Nat) => wl (j + al))
 (Int.toNat ci))) !=
 Prod.fst
 (S.rspS
 (S.tskS nl (fun (j : Nat) => tl (j + al)) (fun (j : Nat) => vl (j + al)) (fun (j : Nat) => gl (j + al))
 fun (j : Nat) => wl (j + al))
 nl ci
 (S.resT (fun (j : Nat) => vl (j + al)) (fun (j : Nat) => gl (j + al)) (fun (j : Nat) => wl (j + al))
 (Int.toNat ci))))
 then (bif ((S.tskS nl (fun (j : Nat) => tl (j + al)) (fun (j : Nat) => vl (j + al)) (fun (j : Nat) => gl (j + al))
 fun (j : Nat) => wl (j + al)) ==
 S.tskS nl (fun (j : Nat) => tl (j + al)) (fun (j : Nat) => vl (j + al)) (fun (j : Nat) => gl (j + al))
 fun (j : Nat) => wl (j + al))
 then (bif (Prod.fst
 (S.rspS
 (S.tskS nl (fun (j : Nat) => tl (j + al)) (fun (j : Nat) => vl (j + al)) (fun (j : Nat) => gl (j + al))
 fun (j : Nat) => wl (j + al))
 nl ci
 (S.resT (fun (j : Nat) => vl (j + al)) (fun (j : Nat) => gl (j + al)) (fun (j : Nat) => wl (j + al))
 (Int.toNat ci))) ==
 Prod.fst
 (S.rspS
 (S.tskS nl (fun (j : Nat) => tl (j + al)) (fun (j : Nat) => vl (j + al)) (fun (j : Nat) => gl (j + al))
 fun (j : Nat) => wl (j + al))
 nl ci
 (S.resT (fun (j : Nat) => vl (j + al)) (fun (j : Nat) => gl (j + al)) (fun (j : Nat) => wl (j + al))
 (Int.toNat ci))))
 then (bif (Prod.snd
 (S.rspS
 (S.tskS nl (fun (j : Nat) => tl (j + al)) (fun (j : Nat) => vl (j + al)) (fun (j : Nat) => gl (j + al))
 fun (j : Nat) => wl (j + al))
 nl ci
 (S.resT (fun (j : Nat) => vl (j + al)) (fun (j : Nat) => gl (j + al)) (fun (j : Nat) => wl (j + al))
 (Int.toNat ci))) ==
 Prod.snd
 (S.rspS
 (S.tskS nl (fun (j : Nat) => tl (j + al)) (fun (j : Nat) => vl (j + al)) (fun (j : Nat) => gl (j + al))
 fun (j : Nat) => wl (j + al))
 nl ci
 (S.resT (fun (j : Nat) => vl (j + al)) (fun (j : Nat) => gl (j + al)) (fun (j : Nat) => wl (j + al))
 (Int.toNat ci))))
 then (some (.inr (true)))
 else (some (.inr (false))))
 else (some (.inr (false))))
 else (some (.inr (false))))
 else (bif (Prod.snd
 (S.rspS
 (S.tskS nl (fun (j : Nat) => tl (j + al)) (fun (j : Nat) => vl (j + al)) (fun (j : Nat) => gl (j + al))
 fun (j : Nat) => wl (j + al))
 nl ci
 (S.resT (fun (j : Nat) => vl (j + al)) (fun (j : Nat) => gl (j + al)) (fun (j : Nat) => wl (j + al))
 (Int.toNat ci))) !=
 Prod.snd
 (S.rspS
 (S.tskS nl (fun (j : Nat) => tl (j + al)) (fun (j : Nat) => vl (j + al)) (fun (j : Nat) => gl (j + al))
 fun (j : Nat) => wl (j + al))
 nl ci
 (S.resT (fun (j : Nat) => vl (j + al)) (fun (j : Nat) => gl (j + al)) (fun (j : Nat) => wl (j + al))
 (Int.toNat ci))))
 then (bif ((S.tskS nl (fun (j : Nat) => tl (j + al)) (fun (j : Nat) => vl (j + al)) (fun (j : Nat) => gl (j + al))
 fun (j : Nat) => wl (j + al)) ==
 S.tskS nl (fun (j : Nat) => tl (j + al)) (fun (j : Nat) => vl (j + al)) (fun (j : Nat) => gl (j + al))
 fun (j : Nat) => wl (j + al))
 then (bif (Prod.fst
 (S.rspS
 (S.tskS nl (fun (j : Nat) => tl (j + al)) (fun (j : Nat) => vl (j + al)) (fun (j : Nat) => gl (j + al))
 fun (j : Nat) => wl (j + al))
 nl ci
 (S.resT (fun (j : Nat) => vl (j + al)) (fun (j : Nat) => gl (j + al)) (fun (j : Nat) => wl (j + al))
 (Int.toNat ci))) ==
 Prod.fst
 (S.rspS
 (S.tskS nl (fun (j : Nat) => tl (j + al)) (fun (j : Nat) => vl (j + al)) (fun (j : Nat) => gl (j + al))
 fun (j : Nat) => wl (j + al))
 nl ci
 (S.resT (fun (j : Nat) => vl (j + al)) (fun (j : Nat) => gl (j + al)) (fun (j : Nat) => wl (j + al))
 (Int.toNat ci))))
 then (bif (Prod.snd
 (S.rspS
 (S.tskS nl (fun (j : Nat) => tl (j + al)) (fun (j : Nat) => vl (j + al)) (fun (j : Nat) => gl (j + al))
 fun (j : Nat) => wl (j + al))
 nl ci
 (S.resT (fun (j : Nat) => vl (j + al)) (fun (j : Nat) => gl (j + al)) (fun (j : Nat) => wl (j + al))
 (Int.toNat ci))) ==
 Prod.snd
 (S.rspS
 (S.tskS nl (fun (j : Nat) => tl (j + al)) (fun (j : Nat) => vl (j + al)) (fun (j : Nat) => gl (j + al))
 fun (j : Nat) => wl (j + al))
 nl ci
 (S.resT (fun (j : Nat) => vl (j + al)) (fun (j : Nat) => gl (j + al)) (fun (j : Nat) => wl (j + al))
 (Int.toNat ci))))
 then (some (.inr (true)))
 else (some (.inr (false))))
 else (some (.inr (false))))
 else (some (.inr (false))))
 else (bif (Prod.snd
 (S.rspS
 (S.tskS nl (fun (j : Nat) => tl (j + al)) (fun (j : Nat) => vl (j + al)) (fun (j : Nat) => gl (j + al))
 fun (j : Nat) => wl (j + al))
 nl ci
 (S.resT (fun (j : Nat) => vl (j + al)) (fun (j : Nat) => gl (j + al)) (fun (j : Nat) => wl (j + al))
 (Int.toNat ci))) !=
 (0 : Int))
 then (bif ((S.tskS nl (fun (j : Nat) => tl (j + al)) (fun (j : Nat) => vl (j + al)) (fun (j : Nat) => gl (j + al))
 fun (j : Nat) => wl (j + al)) ==
 S.tskS nl (fun (j : Nat) => tl (j + al)) (fun (j : Nat) => vl (j + al)) (fun (j : Nat) => gl (j + al))
 fun (j : Nat) => wl (j + al))
 then (bif (Prod.fst
 (S.rspS
 (S.tskS nl (fun (j : Nat) => tl (j + al)) (fun (j : Nat) => vl (j + al)) (fun (j : Nat) => gl (j + al))
 fun (j : Nat) => wl (j + al))
 nl ci
 (S.resT (fun (j : Nat) => vl (j + al)) (fun (j : Nat) => gl (j + al)) (fun (j : Nat) => wl (j + al))
 (Int.toNat ci))) ==
 Prod.fst
 (S.rspS
 (S.tskS nl (fun (j : Nat) => tl (j + al)) (fun (j : Nat) => vl (j + al)) (fun (j : Nat) => gl (j + al))
 fun (j : Nat) => wl (j + al))
 nl ci
 (S.resT (fun (j : Nat) => vl (j + al)) (fun (j : Nat) => gl (j + al)) (fun (j : Nat) => wl (j + al))
 (Int.toNat ci))))
 then (bif (Prod.snd
 (S.rspS
 (S.tskS nl (fun (j : Nat) => tl (j + al)) (fun (j : Nat) => vl (j + al)) (fun (j : Nat) => gl (j + al))
 fun (j : Nat) => wl (j + al))
 nl ci
 (S.resT (fun (j : Nat) => vl (j + al)) (fun (j : Nat) => gl (j + al)) (fun (j : Nat) => wl (j + al))
 (Int.toNat ci))) ==
 Prod.snd
 (S.rspS
 (S.tskS nl (fun (j : Nat) => tl (j + al)) (fun (j : Nat) => vl (j + al)) (fun (j : Nat) => gl (j + al))
 fun (j : Nat) => wl (j + al))
 nl ci
 (S.resT (fun (j : Nat) => vl (j + al)) (fun (j : Nat) => gl (j + al)) (fun (j : Nat) => wl (j + al))
 (Int.toNat ci))))
 then (some (.inr (true)))
 else (some (.inr (false))))
 else (some (.inr (false))))
 else (some (.inr (false))))
 else (bif (S.chkS
 (S.tskS nl (fun (j : Nat) => tl (j + al)) (fun (j : Nat) => vl (j + al)) (fun (j : Nat) => gl (j + al))
 fun (j : Nat) => wl (j + al))
 nl ci
 (Prod.fst
 (S.rspS
 (S.tskS nl (fun (j : Nat) => tl (j + al)) (fun (j : Nat) => vl (j + al)) (fun (j : Nat) => gl (j + al))
 fun (j : Nat) => wl (j + al))
 nl ci
 (S.resT (fun (j : Nat) => vl (j + al)) (fun (j : Nat) => gl (j + al)) (fun (j : Nat) => wl (j + al))
 (Int.toNat ci))))
 (wl (Int.toNat ci + al))
 (S.dem (fun (j : Nat) => vl (j + al)) (fun (j : Nat) => gl (j + al)) (Int.toNat ci)
 (Prod.fst
 (S.rspS
 (S.tskS nl (fun (j : Nat) => tl (j + al)) (fun (j : Nat) => vl (j + al)) (fun (j : Nat) => gl (j + al))
 fun (j : Nat) => wl (j + al))
 nl ci
 (S.resT (fun (j : Nat) => vl (j + al)) (fun (j : Nat) => gl (j + al)) (fun (j : Nat) => wl (j + al))
 (Int.toNat ci))))))
 then (bif (lim IntKind.i64
 (Prod.fst
 (S.rspS
 (S.tskS nl (fun (j : Nat) => tl (j + al)) (fun (j : Nat) => vl (j + al)) (fun (j : Nat) => gl (j + al))
 fun (j : Nat) => wl (j + al))
 nl ci
 (S.resT (fun (j : Nat) => vl (j + al)) (fun (j : Nat) => gl (j + al)) (fun (j : Nat) => wl (j + al))
 (Int.toNat ci))) -
 (1 : Int)))
 then (bif (S.chkS
 (S.tskS nl (fun (j : Nat) => tl (j + al)) (fun (j : Nat) => vl (j + al)) (fun (j : Nat) => gl (j + al))
 fun (j : Nat) => wl (j + al))
 nl ci
 (Prod.fst
 (S.rspS
 (S.tskS nl (fun (j : Nat) => tl (j + al)) (fun (j : Nat) => vl (j + al)) (fun (j : Nat) => gl (j + al))
 fun (j : Nat) => wl (j + al))
 nl ci
 (S.resT (fun (j : Nat) => vl (j + al)) (fun (j : Nat) => gl (j + al)) (fun (j : Nat) => wl (j + al))
 (Int.toNat ci))) -
 (1 : Int))
 (wl (Int.toNat ci + al))
 (S.dem (fun (j : Nat) => vl (j + al)) (fun (j : Nat) => gl (j + al)) (Int.toNat ci)
 (Prod.fst
 (S.rspS
 (S.tskS nl (fun (j : Nat) => tl (j + al)) (fun (j : Nat) => vl (j + al)) (fun (j : Nat) => gl (j + al))
 fun (j : Nat) => wl (j + al))
 nl ci
 (S.resT (fun (j : Nat) => vl (j + al)) (fun (j : Nat) => gl (j + al)) (fun (j : Nat) => wl (j + al))
 (Int.toNat ci))) -
 (1 : Int))))
 then (some (.inr (false)))
 else (some (.inr (true))))
 else (none))
 else (some (.inr (false))))))))
 else (none))
 else (none))
 else (some (.inr (true))))
 else (none) : Option (St3 ⊕ Rt3)) = some x) : Te3 cond Kst Kret al nl ml tl vl gl wl ci := by
  unfold Te3
  exact cond_yes rfl (cond_yes rfl (bif_split h
   (fun c0 h => bif_split h
   (fun c1 h => bif_split h
   (fun c2 h => bif_split h
   (fun c3 h => cond_yes c0 (cond_yes c0 (cond_yes c0 (bif_split h
   (fun c4 h => cond_yes c0 (cond_yes c0 (bif_split h
   (fun c5 h => bif_split h
   (fun c6 h => bif_split h
   (fun c7 h => ret_at hR _ h (fun n => n) rfl rfl rfl (rn_bool_tf rfl) rfl (entl_bor (use_lo rfl) rfl rfl entl_nil))
   (fun c7 h => ret_at hR _ h (fun n => n) rfl rfl rfl (rn_bool_tf rfl) rfl (entl_bor (use_lo rfl) rfl rfl entl_nil)))
   (fun c6 h => ret_at hR _ h (fun n => n) rfl rfl rfl (rn_bool_tf rfl) rfl (entl_bor (use_lo rfl) rfl rfl entl_nil)))
   (fun c5 h => ret_at hR _ h (fun n => n) rfl rfl rfl (rn_bool_tf rfl) rfl (entl_bor (use_lo rfl) rfl rfl entl_nil)))))
   (fun c4 h => bif_split h
   (fun c5 h => cond_yes c0 (cond_yes c0 (bif_split h
   (fun c6 h => bif_split h
   (fun c7 h => bif_split h
   (fun c8 h => ret_at hR _ h (fun n => n) rfl rfl rfl (rn_bool_tf rfl) rfl (entl_bor (use_lo rfl) rfl rfl entl_nil))
   (fun c8 h => ret_at hR _ h (fun n => n) rfl rfl rfl (rn_bool_tf rfl) rfl (entl_bor (use_lo rfl) rfl rfl entl_nil)))
   (fun c7 h => ret_at hR _ h (fun n => n) rfl rfl rfl (rn_bool_tf rfl) rfl (entl_bor (use_lo rfl) rfl rfl entl_nil)))
   (fun c6 h => ret_at hR _ h (fun n => n) rfl rfl rfl (rn_bool_tf rfl) rfl (entl_bor (use_lo rfl) rfl rfl entl_nil)))))
   (fun c5 h => bif_split h
   (fun c6 h => cond_yes c0 (cond_yes c0 (bif_split h
   (fun c7 h => bif_split h
   (fun c8 h => bif_split h
   (fun c9 h => ret_at hR _ h (fun n => n) rfl rfl rfl (rn_bool_tf rfl) rfl (entl_bor (use_lo rfl) rfl rfl entl_nil))
   (fun c9 h => ret_at hR _ h (fun n => n) rfl rfl rfl (rn_bool_tf rfl) rfl (entl_bor (use_lo rfl) rfl rfl entl_nil)))
   (fun c8 h => ret_at hR _ h (fun n => n) rfl rfl rfl (rn_bool_tf rfl) rfl (entl_bor (use_lo rfl) rfl rfl entl_nil)))
   (fun c7 h => ret_at hR _ h (fun n => n) rfl rfl rfl (rn_bool_tf rfl) rfl (entl_bor (use_lo rfl) rfl rfl entl_nil)))))
   (fun c6 h => bif_split h
   (fun c7 h => cond_yes c0 (cond_yes c0 (bif_split h
   (fun c8 h => bif_split h
   (fun c9 h => bif_split h
   (fun c10 h => ret_at hR _ h (fun n => n) rfl rfl rfl (rn_bool_tf rfl) rfl (entl_bor (use_lo rfl) rfl rfl entl_nil))
   (fun c10 h => ret_at hR _ h (fun n => n) rfl rfl rfl (rn_bool_tf rfl) rfl (entl_bor (use_lo rfl) rfl rfl entl_nil)))
   (fun c9 h => ret_at hR _ h (fun n => n) rfl rfl rfl (rn_bool_tf rfl) rfl (entl_bor (use_lo rfl) rfl rfl entl_nil)))
   (fun c8 h => ret_at hR _ h (fun n => n) rfl rfl rfl (rn_bool_tf rfl) rfl (entl_bor (use_lo rfl) rfl rfl entl_nil)))))
   (fun c7 h => cond_yes c0 (bif_split h
   (fun c8 h => bif_split h
   (fun c9 h => cond_yes c0 (bif_split h
   (fun c10 h => ret_at hR _ h (fun n => n) rfl rfl rfl (rn_bool_tf rfl) rfl (entl_bor (use_lo rfl) rfl rfl entl_nil))
   (fun c10 h => ret_at hR _ h (fun n => n) rfl rfl rfl (rn_bool_tf rfl) rfl (entl_bor (use_lo rfl) rfl rfl entl_nil))))
   (fun c9 h => no_some h))
   (fun c8 h => ret_at hR _ h (fun n => n) rfl rfl rfl (rn_bool_tf rfl) rfl (entl_bor (use_lo rfl) rfl rfl entl_nil)))))))))))
   (fun c3 h => no_some h))
   (fun c2 h => no_some h))
   (fun c1 h => cond_yes rfl (cond_yes rfl (ret_at hR _ h (fun n => n) rfl rfl rfl (rn_bool_tf rfl) rfl (entl_bor (use_lo rfl) rfl rfl entl_nil)))))
   (fun c0 h => no_some h)))
theorem a3 (al nl ml : Nat) (tl : Nat → ByteArray) (vl : Nat → Int) (gl : Nat → Int) (wl : Nat → Int) (ci : Int) {r : Rt3} (h : Goes ((q3 al nl ml tl vl gl wl ci)) ((p3 al nl ml tl vl gl wl ci)) r) : CallR Try.prog 3 [.loose ⟨0, 4, al, 0⟩ nl, .int .i64 ci] [[(0, (false, .cols ml [.str tl, .int .i64 vl, .int .i64 gl, .int .i64 wl]))]] 1 ((V3 al nl ml tl vl gl wl ci) r) ((fun r => [newL (1 + 1) ((N3 al nl ml tl vl gl wl ci) r) ++ [(0, (false, .cols ml [.str tl, .int .i64 vl, .int .i64 gl, .int .i64 wl]))]]) r) 400 ∧ ∃ F, Try.prog.funcs[3]? = some F ∧ F.body.isSome = true ∧ (F.name == "runtime.NumGoroutine") = false := by
  refine dec_calls (sy := true) (f := 3) (lo := 1) (hi := 400) (H := [[(0, (false, .cols ml [.str tl, .int .i64 vl, .int .i64 gl, .int .i64 wl]))]]) (args := [.loose ⟨0, 4, al, 0⟩ nl, .int .i64 ci]) Try.envOk Try.mixed xL3_ok ((I3 al nl ml tl vl gl wl ci)) ((V3 al nl ml tl vl gl wl ci)) (fun r => [newL (1 + 1) ((N3 al nl ml tl vl gl wl ci) r) ++ [(0, (false, .cols ml [.str tl, .int .i64 vl, .int .i64 gl, .int .i64 wl]))]]) (fn := mkFn Try.f3) (ts := []) (n := 400) rfl (by decide) (by simp) (names_of rfl) ?_ ?_ ?_ h
  · intro s; exact s.elim
  · intro Kst Kret x hS hR h
    exact Holds.eq (te3 cond Kst Kret al nl ml tl vl gl wl ci) (be3 al nl ml tl vl gl wl ci Kst Kret x hS hR h)
  · intro Kst Kret x hS hR s h; exact s.elim
noncomputable def k3 : Con := ⟨3, [.one (.list [.str, .int .i64, .int .i64, .int .i64]), .one (.plain (.int .i64))], fun (x : (Nat × Nat × Nat × (Nat → ByteArray) × (Nat → Int) × (Nat → Int) × (Nat → Int) × Unit) × Int × Unit) => (fun (al nl ml : Nat) (tl : Nat → ByteArray) (vl : Nat → Int) (gl : Nat → Int) (wl : Nat → Int) (ci : Int) => decide (al + nl ≤ ml)) x.1.1 x.1.2.1 x.1.2.2.1 x.1.2.2.2.1 x.1.2.2.2.2.1 x.1.2.2.2.2.2.1 x.1.2.2.2.2.2.2.1 x.2.1, fun (x : (Nat × Nat × Nat × (Nat → ByteArray) × (Nat → Int) × (Nat → Int) × (Nat → Int) × Unit) × Int × Unit) => (fun (al nl ml : Nat) (tl : Nat → ByteArray) (vl : Nat → Int) (gl : Nat → Int) (wl : Nat → Int) (ci : Int) => (V3 al nl ml tl vl gl wl ci) (true)) x.1.1 x.1.2.1 x.1.2.2.1 x.1.2.2.2.1 x.1.2.2.2.2.1 x.1.2.2.2.2.2.1 x.1.2.2.2.2.2.2.1 x.2.1, fun (x : (Nat × Nat × Nat × (Nat → ByteArray) × (Nat → Int) × (Nat → Int) × (Nat → Int) × Unit) × Int × Unit) => (fun (al nl ml : Nat) (tl : Nat → ByteArray) (vl : Nat → Int) (gl : Nat → Int) (wl : Nat → Int) (ci : Int) => (N3 al nl ml tl vl gl wl ci) (true)) x.1.1 x.1.2.1 x.1.2.2.1 x.1.2.2.2.1 x.1.2.2.2.2.1 x.1.2.2.2.2.2.1 x.1.2.2.2.2.2.2.1 x.2.1, fun _ _ => .dead⟩
theorem s3 (al nl ml : Nat) (tl : Nat → ByteArray) (vl : Nat → Int) (gl : Nat → Int) (wl : Nat → Int) (ci : Int) (hp : al + nl ≤ ml) : Goes ((q3 al nl ml tl vl gl wl ci)) ((p3 al nl ml tl vl gl wl ci)) (true) := by
  have hk : (S.rspS (S.tskS nl (fun j => tl (j + al)) (fun j => vl (j + al)) (fun j => gl (j + al)) (fun j => wl (j + al))) nl ci (S.resT (fun j => vl (j + al)) (fun j => gl (j + al)) (fun j => wl (j + al)) ci.toNat)).2 = 0 → S.chkS (S.tskS nl (fun j => tl (j + al)) (fun j => vl (j + al)) (fun j => gl (j + al)) (fun j => wl (j + al))) nl ci (S.rspS (S.tskS nl (fun j => tl (j + al)) (fun j => vl (j + al)) (fun j => gl (j + al)) (fun j => wl (j + al))) nl ci (S.resT (fun j => vl (j + al)) (fun j => gl (j + al)) (fun j => wl (j + al)) ci.toNat)).1 (wl (ci.toNat + al)) (S.dem (fun j => vl (j + al)) (fun j => gl (j + al)) ci.toNat (S.rspS (S.tskS nl (fun j => tl (j + al)) (fun j => vl (j + al)) (fun j => gl (j + al)) (fun j => wl (j + al))) nl ci (S.resT (fun j => vl (j + al)) (fun j => gl (j + al)) (fun j => wl (j + al)) ci.toNat)).1) = true ∧ S.chkS (S.tskS nl (fun j => tl (j + al)) (fun j => vl (j + al)) (fun j => gl (j + al)) (fun j => wl (j + al))) nl ci ((S.rspS (S.tskS nl (fun j => tl (j + al)) (fun j => vl (j + al)) (fun j => gl (j + al)) (fun j => wl (j + al))) nl ci (S.resT (fun j => vl (j + al)) (fun j => gl (j + al)) (fun j => wl (j + al)) ci.toNat)).1 - 1) (wl (ci.toNat + al)) (S.dem (fun j => vl (j + al)) (fun j => gl (j + al)) ci.toNat ((S.rspS (S.tskS nl (fun j => tl (j + al)) (fun j => vl (j + al)) (fun j => gl (j + al)) (fun j => wl (j + al))) nl ci (S.resT (fun j => vl (j + al)) (fun j => gl (j + al)) (fun j => wl (j + al)) ci.toNat)).1 - 1)) = false := fun h => by
    obtain ⟨he, hi, hr, h1⟩ := rsp_ok h
    obtain ⟨hn, hT⟩ := tskS_ok he
    obtain ⟨q1, q2⟩ := res_ok hT (i := ci.toNat) (by omega)
    obtain ⟨q3, q4, q5⟩ := q2 hr
    have hD : (S.resT (fun j => vl (j + al)) (fun j => gl (j + al)) (fun j => wl (j + al)) ci.toNat).1 ≤ wl (ci.toNat + al) := q4
    rw [h1]
    refine ⟨decide_eq_true ⟨he, hi.1, hi.2, q3, hD, Int.le_of_eq q5⟩, decide_eq_false fun hh => ?_⟩
    obtain ⟨_, _, _, h5, h6, h7⟩ := hh
    have := (q1 _ h5 h6 h7).2
    omega
  have hlim : (S.rspS (S.tskS nl (fun j => tl (j + al)) (fun j => vl (j + al)) (fun j => gl (j + al)) (fun j => wl (j + al))) nl ci (S.resT (fun j => vl (j + al)) (fun j => gl (j + al)) (fun j => wl (j + al)) ci.toNat)).2 = 0 → lim .i64 ((S.rspS (S.tskS nl (fun j => tl (j + al)) (fun j => vl (j + al)) (fun j => gl (j + al)) (fun j => wl (j + al))) nl ci (S.resT (fun j => vl (j + al)) (fun j => gl (j + al)) (fun j => wl (j + al)) ci.toNat)).1 - 1) = true := fun h => by
    obtain ⟨he, hi, hr, h1⟩ := rsp_ok h
    obtain ⟨hn, hT⟩ := tskS_ok he
    obtain ⟨q3, q4, q5⟩ := (res_ok hT (i := ci.toNat) (by omega)).2 hr
    have hh := (okT_at hT).2 ci.toNat (by omega)
    rw [h1, lim64]
    exact decide_eq_true (by omega)
  unfold p3
  generalize S.chkS (S.tskS nl (fun j => tl (j + al)) (fun j => vl (j + al)) (fun j => gl (j + al)) (fun j => wl (j + al))) nl ci (S.rspS (S.tskS nl (fun j => tl (j + al)) (fun j => vl (j + al)) (fun j => gl (j + al)) (fun j => wl (j + al))) nl ci (S.resT (fun j => vl (j + al)) (fun j => gl (j + al)) (fun j => wl (j + al)) ci.toNat)).1 (wl (ci.toNat + al)) (S.dem (fun j => vl (j + al)) (fun j => gl (j + al)) ci.toNat (S.rspS (S.tskS nl (fun j => tl (j + al)) (fun j => vl (j + al)) (fun j => gl (j + al)) (fun j => wl (j + al))) nl ci (S.resT (fun j => vl (j + al)) (fun j => gl (j + al)) (fun j => wl (j + al)) ci.toNat)).1) = c1 at *
  generalize S.chkS (S.tskS nl (fun j => tl (j + al)) (fun j => vl (j + al)) (fun j => gl (j + al)) (fun j => wl (j + al))) nl ci ((S.rspS (S.tskS nl (fun j => tl (j + al)) (fun j => vl (j + al)) (fun j => gl (j + al)) (fun j => wl (j + al))) nl ci (S.resT (fun j => vl (j + al)) (fun j => gl (j + al)) (fun j => wl (j + al)) ci.toNat)).1 - 1) (wl (ci.toNat + al)) (S.dem (fun j => vl (j + al)) (fun j => gl (j + al)) ci.toNat ((S.rspS (S.tskS nl (fun j => tl (j + al)) (fun j => vl (j + al)) (fun j => gl (j + al)) (fun j => wl (j + al))) nl ci (S.resT (fun j => vl (j + al)) (fun j => gl (j + al)) (fun j => wl (j + al)) ci.toNat)).1 - 1)) = c2 at *
  generalize S.rspS (S.tskS nl (fun j => tl (j + al)) (fun j => vl (j + al)) (fun j => gl (j + al)) (fun j => wl (j + al))) nl ci (S.resT (fun j => vl (j + al)) (fun j => gl (j + al)) (fun j => wl (j + al)) ci.toNat) = r at *
  generalize S.tskS nl (fun j => tl (j + al)) (fun j => vl (j + al)) (fun j => gl (j + al)) (fun j => wl (j + al)) = e at *
  refine goes_ok (decide_eq_true hp) ?_
  cases hF : S.fewT nl fun j => tl (j + al)
  · exact goes_no rfl rfl
  · refine goes_ok rfl ?_
    have h12 : nl ≤ 12 := (of_decide_eq_true hF).1
    refine goes_ok (decide_eq_true ⟨hp, by omega⟩) ?_
    refine goes_ok (decide_eq_true (by omega)) ?_
    refine goes_no (bne_self_eq_false _) ?_
    refine goes_no (bne_self_eq_false _) ?_
    refine goes_no (bne_self_eq_false _) ?_
    by_cases h0 : r.2 = 0
    · obtain ⟨k1, k2⟩ := hk h0
      have k3 := hlim h0
      rw [h0, k1, k2]
      clear hk hlim
      first
        | exact goes_no rfl (goes_ok rfl (goes_ok k3 (goes_no rfl rfl)))
        | exact goes_no rfl (goes_ok (beq_self_eq_true _) (goes_ok k3 (goes_no rfl rfl)))
        | trace_state
    · refine goes_ok (by simpa using h0) ?_
      exact goes_ok (beq_self_eq_true _) (goes_ok (beq_self_eq_true _) (goes_ok (beq_self_eq_true _) rfl))

theorem k3_ok : k3.ok Try.prog := by
  intro x hx
  obtain ⟨⟨al, nl, ml, tl, vl, gl, wl, _⟩, ci, _⟩ := x
  obtain ⟨h1, h2⟩ := a3 al nl ml tl vl gl wl ci (s3 al nl ml tl vl gl wl ci (of_dec hx rfl))
  exact ⟨⟨400, (by decide : 1 + 1 + 0 ≤ 400), h1⟩, h2⟩

end Go.Ev
