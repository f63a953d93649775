/-
  The law of Slack.
-/
import Derived.Test.YtofnanmggmeleaaG4
namespace Go.Ev
open Go.Proofs
set_option linter.unusedVariables false
set_option linter.unusedSimpArgs false
set_option maxRecDepth 100000

theorem with_tsk' {n : Nat} {t : Nat → ByteArray} {p c d : Nat → Int} {i : Nat} {m : Int} : S.tskS n (fun j => (S.at' (S.withL n t p c d i m) j).1) (fun j => (S.at' (S.withL n t p c d i m) j).2.1) (fun j => (S.at' (S.withL n t p c d i m) j).2.2.1) (fun j => (S.at' (S.withL n t p c d i m) j).2.2.2) = S.tskS n t p (S.updC c i m) d := by
  have := with_tsk (n := n) (t := t) (p := p) (c := c) (d := d) (i := i) (m := m)
  rwa [with_len] at this
theorem with_mis' {n : Nat} {t : Nat → ByteArray} {p c d : Nat → Int} {i : Nat} {m : Int} : S.misT n (fun j => (S.at' (S.withL n t p c d i m) j).2.1) (fun j => (S.at' (S.withL n t p c d i m) j).2.2.1) (fun j => (S.at' (S.withL n t p c d i m) j).2.2.2) = S.misT n p (S.updC c i m) d := by
  have := with_mis (n := n) (t := t) (p := p) (c := c) (d := d) (i := i) (m := m)
  rwa [with_len] at this
theorem slk_ok {e : Int} {n : Nat} {i m fr : Int} (h : (S.slkS e n i m fr).2 = 0) : e = 0 ∧ (0 ≤ i ∧ i < n) ∧ m < 0 ∧ (S.slkS e n i m fr).1 = fr - 1 := by
  unfold S.slkS at h ⊢
  split at h
  · rename_i he
    rw [if_pos he]
    split at h
    · rename_i hi
      rw [if_pos hi]
      split at h
      · cases h
      · rename_i hm
        rw [if_neg hm]
        exact ⟨he, hi, by omega, rfl⟩
    · cases h
  · exact absurd h (by assumption)
abbrev St10 := Empty
abbrev Rt10 := Bool
noncomputable def V10 (al nl ml : Nat) (tl : Nat → ByteArray) (vl : Nat → Int) (gl : Nat → Int) (wl : Nat → Int) (ci : Int) (r : Rt10) : PV := PV.bool r
noncomputable def N10 (al nl ml : Nat) (tl : Nat → ByteArray) (vl : Nat → Int) (gl : Nat → Int) (wl : Nat → Int) (ci : Int) (r : Rt10) : List Blk := []
noncomputable def I10 (al nl ml : Nat) (tl : Nat → ByteArray) (vl : Nat → Int) (gl : Nat → Int) (wl : Nat → Int) (ci : Int) : St10 → Hd := fun s => s.elim
noncomputable def q10 (al nl ml : Nat) (tl : Nat → ByteArray) (vl : Nat → Int) (gl : Nat → Int) (wl : Nat → Int) (ci : Int) : St10 → Option (St10 ⊕ Rt10) := fun s => s.elim
noncomputable def p10 (al nl ml : Nat) (tl : Nat → ByteArray) (vl : Nat → Int) (gl : Nat → Int) (wl : Nat → Int) (ci : Int) : Option (St10 ⊕ Rt10) := bif (decide (al + nl ≤ ml))
 then (bif (S.fewT nl fun (j : Nat) => tl (j + al))
 then (bif (decide (al + nl ≤ ml ∧ nl ≤ 1000000))
 then (bif (decide (0 + nl ≤ nl))
 then (bif (Prod.fst
 (S.slkS
 (S.tskS nl (fun (j : Nat) => tl (j + al)) (fun (j : Nat) => vl (j + al)) (fun (j : Nat) => gl (j + al))
 fun (j : Nat) => wl (j + al))
 nl ci (S.misT nl (fun (j : Nat) => vl (j + al)) (fun (j : Nat) => gl (j + al)) fun (j : Nat) => wl (j + al))
 (S.firF
 (fun (x : Int) =>
 S.slP nl (fun (j : Nat) => vl (j + al)) (fun (j : Nat) => gl (j + al)) (fun (j : Nat) => wl (j + al))
 (Int.toNat ci) x)
 (Int.toNat (wl (Int.toNat ci + al) - gl (Int.toNat ci + al) + (1 : Int))) (0 : Int))) !=
 Prod.fst
 (S.slkS
 (S.tskS nl (fun (j : Nat) => tl (j + al)) (fun (j : Nat) => vl (j + al)) (fun (j : Nat) => gl (j + al))
 fun (j : Nat) => wl (j + al))
 nl ci (S.misT nl (fun (j : Nat) => vl (j + al)) (fun (j : Nat) => gl (j + al)) fun (j : Nat) => wl (j + al))
 (S.firF
 (fun (x : Int) =>
 S.slP nl (fun (j : Nat) => vl (j + al)) (fun (j : Nat) => gl (j + al)) (fun (j : Nat) => wl (j + al))
 (Int.toNat ci) x)
 (Int.toNat (wl (Int.toNat ci + al) - gl (Int.toNat ci + al) + (1 : Int))) (0 : Int))))
 then (bif (Prod.fst
 (S.slkS
 (S.tskS nl (fun (j : Nat) => tl (j + al)) (fun (j : Nat) => vl (j + al)) (fun (j : Nat) => gl (j + al))
 fun (j : Nat) => wl (j + al))
 nl ci (S.misT nl (fun (j : Nat) => vl (j + al)) (fun (j : Nat) => gl (j + al)) fun (j : Nat) => wl (j + al))
 (S.firF
 (fun (x : Int) =>
 S.slP nl (fun (j : Nat) => vl (j + al)) (fun (j : Nat) => gl (j + al)) (fun (j : Nat) => wl (j + al))
 (Int.toNat ci) x)
 (Int.toNat (wl (Int.toNat ci + al) - gl (Int.toNat ci + al) + (1 : Int))) (0 : Int))) ==
 Prod.fst
 (S.slkS
 (S.tskS nl (fun (j : Nat) => tl (j + al)) (fun (j : Nat) => vl (j + al)) (fun (j : Nat) => gl (j + al))
 fun (j : Nat) => wl (j + al))
 nl ci (S.misT nl (fun (j : Nat) => vl (j + al)) (fun (j : Nat) => gl (j + al)) fun (j : Nat) => wl (j + al))
 (S.firF
 (fun (x : Int) =>
 S.slP nl (fun (j : Nat) => vl (j + al)) (fun (j : Nat) => gl (j + al)) (fun (j : Nat) => wl (j + al))
 (Int.toNat ci) x)
 (Int.toNat (wl (Int.toNat ci + al) - gl (Int.toNat ci + al) + (1 : Int))) (0 : Int))))
 then (bif (Prod.snd
 (S.slkS
 (S.tskS nl (fun (j : Nat) => tl (j + al)) (fun (j : Nat) => vl (j + al)) (fun (j : Nat) => gl (j + al))
 fun (j : Nat) => wl (j + al))
 nl ci (S.misT nl (fun (j : Nat) => vl (j + al)) (fun (j : Nat) => gl (j + al)) fun (j : Nat) => wl (j + al))
 (S.firF
 (fun (x : Int) =>
 S.slP nl (fun (j : Nat) => vl (j + al)) (fun (j : Nat) => gl (j + al)) (fun (j : Nat) => wl (j + al))
 (Int.toNat ci) x)
 (Int.toNat (wl (Int.toNat ci + al) - gl (Int.toNat ci + al) + (1 : Int))) (0 : Int))) ==
 Prod.snd
 (S.slkS
 (S.tskS nl (fun (j : Nat) => tl (j + al)) (fun (j : Nat) => vl (j + al)) (fun (j : Nat) => gl (j + al))
 fun (j : Nat) => wl (j + al))
 nl ci (S.misT nl (fun (j : Nat) => vl (j + al)) (fun (j : Nat) => gl (j + al)) fun (j : Nat) => wl (j + al))
 (S.firF
 (fun (x : Int) =>
 S.slP nl (fun (j : Nat) => vl (j + al)) (fun (j : Nat) => gl (j + al)) (fun (j : Nat) => wl (j + al))
 (Int.toNat ci) x)
 (Int.toNat (wl (Int.toNat ci + al) - gl (Int.toNat ci + al) + (1 : Int))) (0 : Int))))
 then (some (.inr (true)))
 else (some (.inr (false))))
 else (some (.inr (false))))
 else (bif (Prod.snd
 (S.slkS
 (S.tskS nl (fun (j : Nat) => tl (j + al)) (fun (j : Nat) => vl (j + al)) (fun (j : Nat) => gl (j + al))
 fun (j : Nat) => wl (j + al))
 nl ci (S.misT nl (fun (j : Nat) => vl (j + al)) (fun (j : Nat) => gl (j + al)) fun (j : Nat) => wl (j + al))
 (S.firF
 (fun (x : Int) =>
 S.slP nl (fun (j : Nat) => vl (j + al)) (fun (j : Nat) => gl (j + al)) (fun (j : Nat) => wl (j + al))
 (Int.toNat ci) x)
 (Int.toNat (wl (Int.toNat ci + al) - gl (Int.toNat ci + al) + (1 : Int))) (0 : Int))) !=
 Prod.snd
 (S.slkS
 (S.tskS nl (fun (j : Nat) => tl (j + al)) (fun (j : Nat) => vl (j + al)) (fun (j : Nat) => gl (j + al))
 fun (j : Nat) => wl (j + al))
 nl ci (S.misT nl (fun (j : Nat) => vl (j + al)) (fun (j : Nat) => gl (j + al)) fun (j : Nat) => wl (j + al))
 (S.firF
 (fun (x : Int) =>
 S.slP nl (fun (j : Nat) => vl (j + al)) (fun (j : Nat) => gl (j + al)) (fun (j : Nat) => wl (j + al))
 (Int.toNat ci) x)
 (Int.toNat (wl (Int.toNat ci + al) - gl (Int.toNat ci + al) + (1 : Int))) (0 : Int))))
 then (bif (Prod.fst
 (S.slkS
 (S.tskS nl (fun (j : Nat) => tl (j + al)) (fun (j : Nat) => vl (j + al)) (fun (j : Nat) => gl (j + al))
 fun (j : Nat) => wl (j + al))
 nl ci (S.misT nl (fun (j : Nat) => vl (j + al)) (fun (j : Nat) => gl (j + al)) fun (j : Nat) => wl (j + al))
 (S.firF
 (fun (x : Int) =>
 S.slP nl (fun (j : Nat) => vl (j + al)) (fun (j : Nat) => gl (j + al)) (fun (j : Nat) => wl (j + al))
 (Int.toNat ci) x)
 (Int.toNat (wl (Int.toNat ci + al) - gl (Int.toNat ci + al) + (1 : Int))) (0 : Int))) ==
 Prod.fst
 (S.slkS
 (S.tskS nl (fun (j : Nat) => tl (j + al)) (fun (j : Nat) => vl (j + al)) (fun (j : Nat) => gl (j + al))
 fun (j : Nat) => wl (j + al))
 nl ci (S.misT nl (fun (j : Nat) => vl (j + al)) (fun (j : Nat) => gl (j + al)) fun (j : Nat) => wl (j + al))
 (S.firF
 (fun (x : Int) =>
 S.slP nl (fun (j : Nat) => vl (j + al)) (fun (j : Nat) => gl (j + al)) (fun (j : Nat) => wl (j + al))
 (Int.toNat ci) x)
 (Int.toNat (wl (Int.toNat ci + al) - gl (Int.toNat ci + al) + (1 : Int))) (0 : Int))))
 then (bif (Prod.snd
 (S.slkS
 (S.tskS nl (fun (j : Nat) => tl (j + al)) (fun (j : Nat) => vl (j + al)) (fun (j : Nat) => gl (j + al))
 fun (j : Nat) => wl (j + al))
 nl ci (S.misT nl (fun (j : Nat) => vl (j + al)) (fun (j : Nat) => gl (j + al)) fun (j : Nat) => wl (j + al))
 (S.firF
 (fun (x : Int) =>
 S.slP nl (fun (j : Nat) => vl (j + al)) (fun (j : Nat) => gl (j + al)) (fun (j : Nat) => wl (j + al))
 (Int.toNat ci) x)
 (Int.toNat (wl (Int.toNat ci + al) - gl (Int.toNat ci + al) + (1 : Int))) (0 : Int))) ==
 Prod.snd
 (S.slkS
 (S.tskS nl (fun (j : Nat) => tl (j + al)) (fun (j : Nat) => vl (j + al)) (fun (j : Nat) => gl (j + al))
 fun (j : Nat) => wl (j + al))
 nl ci (S.misT nl (fun (j : Nat) => vl (j + al)) (fun (j : Nat) => gl (j + al)) fun (j : Nat) => wl (j + al))
 (S.firF
 (fun (x : Int) =>
 S.slP nl (fun (j : Nat) => vl (j + al)) (fun (j : Nat) => gl (j + al)) (fun (j : Nat) => wl (j + al))
 (Int.toNat ci) x)
 (Int.toNat (wl (Int.toNat ci + al) - gl (Int.toNat ci + al) + (1 : Int))) (0 : Int))))
 then (some (.inr (true)))
 else (some (.inr (false))))
 else (some (.inr (false))))
 else (bif (Prod.snd
 (S.slkS
 (S.tskS nl (fun (j : Nat) => tl (j + al)) (fun (j : Nat) => vl (j + al)) (fun (j : Nat) => gl (j + al))
 fun (j : Nat) => wl (j + al))
 nl ci (S.misT nl (fun (j : Nat) => vl (j + al)) (fun (j : Nat) => gl (j + al)) fun (j : Nat) => wl (j + al))
 (S.firF
 (fun (x : Int) =>
 S.slP nl (fun (j : Nat) => vl (j + al)) (fun (j : Nat) => gl (j + al)) (fun (j : Nat) => wl (j + al))
 (Int.toNat ci) x)
 (Int.toNat (wl (Int.toNat ci + al) - gl (Int.toNat ci + al) + (1 : Int))) (0 : Int))) !=
 (0 : Int))
 then (bif (Prod.fst
 (S.slkS
 (S.tskS nl (fun (j : Nat) => tl (j + al)) (fun (j : Nat) => vl (j + al)) (fun (j : Nat) => gl (j + al))
 fun (j : Nat) => wl (j + al))
 nl ci (S.misT nl (fun (j : Nat) => vl (j + al)) (fun (j : Nat) => gl (j + al)) fun (j : Nat) => wl (j + al))
 (S.firF
 (fun (x : Int) =>
 S.slP nl (fun (j : Nat) => vl (j + al)) (fun (j : Nat) => gl (j + al)) (fun (j : Nat) => wl (j + al))
 (Int.toNat ci) x)
 (Int.toNat (wl (Int.toNat ci + al) - gl (Int.toNat ci + al) + (1 : Int))) (0 : Int))) ==
 Prod.fst
 (S.slkS
 (S.tskS nl (fun (j : Nat) => tl (j + al)) (fun (j : Nat) => vl (j + al)) (fun (j : Nat) => gl (j + al))
 fun (j : Nat) => wl (j + al))
 nl ci (S.misT nl (fun (j : Nat) => vl (j + al)) (fun (j : Nat) => gl (j + al)) fun (j : Nat) => wl (j + al))
 (S.firF
 (fun (x : Int) =>
 S.slP nl (fun (j : Nat) => vl (j + al)) (fun (j : Nat) => gl (j + al)) (fun (j : Nat) => wl (j + al))
 (Int.toNat ci) x)
 (Int.toNat (wl (Int.toNat ci + al) - gl (Int.toNat ci + al) + (1 : Int))) (0 : Int))))
 then (bif (Prod.snd
 (S.slkS
 (S.tskS nl (fun (j : Nat) => tl (j + al)) (fun (j : Nat) => vl (j + al)) (fun (j : Nat) => gl (j + al))
 fun (j : Nat) => wl (j + al))
 nl ci (S.misT nl (fun (j : Nat) => vl (j + al)) (fun (j : Nat) => gl (j + al)) fun (j : Nat) => wl (j + al))
 (S.firF
 (fun (x : Int) =>
 S.slP nl (fun (j : Nat) => vl (j + al)) (fun (j : Nat) => gl (j + al)) (fun (j : Nat) => wl (j + al))
 (Int.toNat ci) x)
 (Int.toNat (wl (Int.toNat ci + al) - gl (Int.toNat ci + al) + (1 : Int))) (0 : Int))) ==
 Prod.snd
 (S.slkS
 (S.tskS nl (fun (j : Nat) => tl (j + al)) (fun (j : Nat) => vl (j + al)) (fun (j : Nat) => gl (j + al))
 fun (j : Nat) => wl (j + al))
 nl ci (S.misT nl (fun (j : Nat) => vl (j + al)) (fun (j : Nat) => gl (j + al)) fun (j : Nat) => wl (j + al))
 (S.firF
 (fun (x : Int) =>
 S.slP nl (fun (j : Nat) => vl (j + al)) (fun (j : Nat) => gl (j + al)) (fun (j : Nat) => wl (j + al))
 (Int.toNat ci) x)
 (Int.toNat (wl (Int.toNat ci + al) - gl (Int.toNat ci + al) + (1 : Int))) (0 : Int))))
 then (some (.inr (true)))
 else (some (.inr (false))))
 else (some (.inr (false))))
 else (bif (decide
 (al + nl ≤ ml ∧
 ((0 : Int) ≤ ci ∧ ci < (↑nl : Int)) ∧
 (S.okT nl (fun (j : Nat) => vl (j + al)) (fun (j : Nat) => gl (j + al)) fun (j : Nat) => wl (j + al)) =
 true ∧
 (0 : Int) ≤
 Prod.fst
 (S.slkS
 (S.tskS nl (fun (j : Nat) => tl (j + al)) (fun (j : Nat) => vl (j + al))
 (fun (j : Nat) => gl (j + al)) fun (j : Nat) => wl (j + al))
 nl ci
 (S.misT nl (fun (j : Nat) => vl (j + al)) (fun (j : Nat) => gl (j + al)) fun (j : Nat) =>
 wl (j + al))
 (S.firF
 (fun (x : Int) =>
 S.slP nl (fun (j : Nat) => vl (j + al)) (fun (j : Nat) => gl (j + al))
 (fun (j : Nat) => wl (j + al)) (Int.toNat ci) x)
 (Int.toNat (wl (Int.toNat ci + al) - gl (Int.toNat ci + al) + (1 : Int))) (0 : Int))) ∧
 Prod.fst
 (S.slkS
 (S.tskS nl (fun (j : Nat) => tl (j + al)) (fun (j : Nat) => vl (j + al))
 (fun (j : Nat) => gl (j + al)) fun (j : Nat) => wl (j + al))
 nl ci
 (S.misT nl (fun (j : Nat) => vl (j + al)) (fun (j : Nat) => gl (j + al)) fun (j : Nat) =>
 wl (j + al))
 (S.firF
 (fun (x : Int) =>
 S.slP nl (fun (j : Nat) => vl (j + al)) (fun (j : Nat) => gl (j + al))
 (fun (j : Nat) => wl (j + al)) (Int.toNat ci) x)
 (Int.toNat (wl (Int.toNat ci + al) - gl (Int.toNat ci + al) + (1 : Int))) (0 : Int))) ≤
 (10000000 : Int)))
 then (bif (decide
 (0 +
 List.length
 (S.withL nl (fun (j : Nat) => tl (j + al)) (fun (j : Nat) => vl (j + al)) (fun (j : Nat) => gl (j + al))
 (fun (j : Nat) => wl (j + al)) (Int.toNat ci)
 (Prod.fst
 (S.slkS
 (S.tskS nl (fun (j : Nat) => tl (j + al)) (fun (j : Nat) => vl (j + al))
 (fun (j : Nat) => gl (j + al)) fun (j : Nat) => wl (j + al))
 nl ci
 (S.misT nl (fun (j : Nat) => vl (j + al)) (fun (j : Nat) => gl (j + al)) fun (j : Nat) =>
 wl (j + al))
 (S.firF
 (fun (x : Int) =>
 S.slP nl (fun (j : Nat) => vl (j + al)) (fun (j : Nat) => gl (j + al))
 (fun (j : Nat) => wl (j + al)) (Int.toNat ci) x)
 (Int.toNat (wl (Int.toNat ci + al) - gl (Int.toNat ci + al) + (1 : Int))) (0 : Int))))) ≤
 List.length
 (S.withL nl (fun (j : Nat) => tl (j + al)) (fun (j : Nat) => vl (j + al)) (fun (j : Nat) => gl (j + al))
 (fun (j : Nat) => wl (j + al)) (Int.toNat ci)
 (Prod.fst
 (S.slkS
 (S.tskS nl (fun (j : Nat) => tl (j + al)) (fun (j : Nat) => vl (j + al))
 (fun (j : Nat) => gl (j + al)) fun (j : Nat) => wl (j + al))
 nl ci
 (S.misT nl (fun (j : Nat) => vl (j + al)) (fun (j : Nat) => gl (j + al)) fun (j : Nat) => wl (j + al))
 (S.firF
 (fun (x : Int) =>
 S.slP nl (fun (j : Nat) => vl (j + al)) (fun (j : Nat) => gl (j + al))
 (fun (j : Nat) => wl (j + al)) (Int.toNat ci) x)
 (Int.toNat (wl (Int.toNat ci + al) - gl (Int.toNat ci + al) + (1 : Int))) (0 : Int)))))))
 then (bif (lim IntKind.i64
 (Prod.fst
 (S.slkS
 (S.tskS nl (fun (j : Nat) => tl (j + al)) (fun (j : Nat) => vl (j + al)) (fun (j : Nat) => gl (j + al))
 fun (j : Nat) => wl (j + al))
 nl ci
 (S.misT nl (fun (j : Nat) => vl (j + al)) (fun (j : Nat) => gl (j + al)) fun (j : Nat) => wl (j + al))
 (S.firF
 (fun (x : Int) =>
 S.slP nl (fun (j : Nat) => vl (j + al)) (fun (j : Nat) => gl (j + al)) (fun (j : Nat) => wl (j + al))
 (Int.toNat ci) x)
 (Int.toNat (wl (Int.toNat ci + al) - gl (Int.toNat ci + al) + (1 : Int))) (0 : Int))) +
 (1 : Int)))
 then (bif (decide
 (al + nl ≤ ml ∧
 ((0 : Int) ≤ ci ∧ ci < (↑nl : Int)) ∧
 (S.okT nl (fun (j : Nat) => vl (j + al)) (fun (j : Nat) => gl (j + al)) fun (j : Nat) => wl (j + al)) =
 true ∧
 (0 : Int) ≤
 Prod.fst
 (S.slkS
 (S.tskS nl (fun (j : Nat) => tl (j + al)) (fun (j : Nat) => vl (j + al))
 (fun (j : Nat) => gl (j + al)) fun (j : Nat) => wl (j + al))
 nl ci
 (S.misT nl (fun (j : Nat) => vl (j + al)) (fun (j : Nat) => gl (j + al)) fun (j : Nat) =>
 wl (j + al))
 (S.firF
 (fun (x : Int) =>
 S.slP nl (fun (j : Nat) => vl (j + al)) (fun (j : Nat) => gl (j + al))
 (fun (j : Nat) => wl (j + al)) (Int.toNat ci) x)
 (Int.toNat (wl (Int.toNat ci + al) - gl (Int.toNat ci + al) + (1 : Int))) (0 : Int))) +
 (1 : Int) ∧
 Prod.fst
 (S.slkS
 (S.tskS nl (fun (j : Nat) => tl (j + al)) (fun (j : Nat) => vl (j + al))
 (fun (j : Nat) => gl (j + al)) fun (j : Nat) => wl (j + al))
 nl ci
 (S.misT nl (fun (j : Nat) => vl (j + al)) (fun (j : Nat) => gl (j + al)) fun (j : Nat) =>
 wl (j + al))
 (S.firF
 (fun (x : Int) =>
 S.slP nl (fun (j : Nat) => vl (j + al)) (fun (j : Nat) => gl (j + al))
 (fun (j : Nat) => wl (j + al)) (Int.toNat ci) x)
 (Int.toNat (wl (Int.toNat ci + al) - gl (Int.toNat ci + al) + (1 : Int))) (0 : Int))) +
 (1 : Int) ≤
 (10000000 : Int)))
 then (bif (decide
 (0 +
 List.length
 (S.withL nl (fun (j : Nat) => tl (j + al)) (fun (j : Nat) => vl (j + al)) (fun (j : Nat) => gl (j + al))
 (fun (j : Nat) => wl (j + al)) (Int.toNat ci)
 (Prod.fst
 (S.slkS
 (S.tskS nl (fun (j : Nat) => tl (j + al)) (fun (j : Nat) => vl (j + al))
 (fun (j : Nat) => gl (j + al)) fun (j : Nat) => wl (j + al))
 nl ci
 (S.misT nl (fun (j : Nat) => vl (j + al)) (fun (j : Nat) => gl (j + al)) fun (j : Nat) =>
 wl (j + al))
 (S.firF
 (fun (x : Int) =>
 S.slP nl (fun (j : Nat) => vl (j + al)) (fun (j : Nat) => gl (j + al))
 (fun (j : Nat) => wl (j + al)) (Int.toNat ci) x)
 (Int.toNat (wl (Int.toNat ci + al) - gl (Int.toNat ci + al) + (1 : Int))) (0 : Int))) +
 (1 : Int))) ≤
 List.length
 (S.withL nl (fun (j : Nat) => tl (j + al)) (fun (j : Nat) => vl (j + al)) (fun (j : Nat) => gl (j + al))
 (fun (j : Nat) => wl (j + al)) (Int.toNat ci)
 (Prod.fst
 (S.slkS
 (S.tskS nl (fun (j : Nat) => tl (j + al)) (fun (j : Nat) => vl (j + al))
 (fun (j : Nat) => gl (j + al)) fun (j : Nat) => wl (j + al))
 nl ci
 (S.misT nl (fun (j : Nat) => vl (j + al)) (fun (j : Nat) => gl (j + al)) fun (j : Nat) =>
 wl (j + al))
 (S.firF
 (fun (x : Int) =>
 S.slP nl (fun (j : Nat) => vl (j + al)) (fun (j : Nat) => gl (j + al))
 (fun (j : Nat) => wl (j + al)) (Int.toNat ci) x)
 (Int.toNat (wl (Int.toNat ci + al) - gl (Int.toNat ci + al) + (1 : Int))) (0 : Int))) +
 (1 : Int)))))
 then (bif (Prod.snd
 (S.misS
 (S.tskS
 (List.length
 (S.withL nl (fun (j : Nat) => tl (j + al)) (fun (j : Nat) => vl (j + al)) (fun (j : Nat) => gl (j + al))
 (fun (j : Nat) => wl (j + al)) (Int.toNat ci)
 (Prod.fst
 (S.slkS
 (S.tskS nl (fun (j : Nat) => tl (j + al)) (fun (j : Nat) => vl (j + al))
 (fun (j : Nat) => gl (j + al)) fun (j : Nat) => wl (j + al))
 nl ci
 (S.misT nl (fun (j : Nat) => vl (j + al)) (fun (j : Nat) => gl (j + al)) fun (j : Nat) =>
 wl (j + al))
 (S.firF
 (fun (x : Int) =>
 S.slP nl (fun (j : Nat) => vl (j + al)) (fun (j : Nat) => gl (j + al))
 (fun (j : Nat) => wl (j + al)) (Int.toNat ci) x)
 (Int.toNat (wl (Int.toNat ci + al) - gl (Int.toNat ci + al) + (1 : Int))) (0 : Int))))))
 (fun (j : Nat) =>
 Prod.fst
 (S.at'
 (S.withL nl (fun (j : Nat) => tl (j + al)) (fun (j : Nat) => vl (j + al))
 (fun (j : Nat) => gl (j + al)) (fun (j : Nat) => wl (j + al)) (Int.toNat ci)
 (Prod.fst
 (S.slkS
 (S.tskS nl (fun (j : Nat) => tl (j + al)) (fun (j : Nat) => vl (j + al))
 (fun (j : Nat) => gl (j + al)) fun (j : Nat) => wl (j + al))
 nl ci
 (S.misT nl (fun (j : Nat) => vl (j + al)) (fun (j : Nat) => gl (j + al)) fun (j : Nat) =>
 wl (j + al))
 (S.firF
 (fun (x : Int) =>
 S.slP nl (fun (j : Nat) => vl (j + al)) (fun (j : Nat) => gl (j + al))
 (fun (j : Nat) => wl (j + al)) (Int.toNat ci) x)
 (Int.toNat (wl (Int.toNat ci + al) - gl (Int.toNat ci + al) + (1 : Int))) (0 : Int)))))
 j))
 (fun (j : Nat) =>
 Prod.fst
 (Prod.snd
 (S.at'
 (S.withL nl (fun (j : Nat) => tl (j + al)) (fun (j : Nat) => vl (j + al))
 (fun (j : Nat) => gl (j + al)) (fun (j : Nat) => wl (j + al)) (Int.toNat ci)
 (Prod.fst
 (S.slkS
 (S.tskS nl (fun (j : Nat) => tl (j + al)) (fun (j : Nat) => vl (j + al))
 (fun (j : Nat) => gl (j + al)) fun (j : Nat) => wl (j + al))
 nl ci
 (S.misT nl (fun (j : Nat) => vl (j + al)) (fun (j : Nat) => gl (j + al)) fun (j : Nat) =>
 wl (j + al))
 (S.firF
 (fun (x : Int) =>
 S.slP nl (fun (j : Nat) => vl (j + al)) (fun (j : Nat) => gl (j + al))
 (fun (j : Nat) => wl (j + al)) (Int.toNat ci) x)
 (Int.toNat (wl (Int.toNat ci + al) - gl (Int.toNat ci + al) + (1 : Int))) (0 : Int)))))
 j)))
 (fun (j : Nat) =>
 Prod.fst
 (Prod.snd
 (Prod.snd
 (S.at'
 (S.withL nl (fun (j : Nat) => tl (j + al)) (fun (j : Nat) => vl (j + al))
 (fun (j : Nat) => gl (j + al)) (fun (j : Nat) => wl (j + al)) (Int.toNat ci)
 (Prod.fst
 (S.slkS
 (S.tskS nl (fun (j : Nat) => tl (j + al)) (fun (j : Nat) => vl (j + al))
 (fun (j : Nat) => gl (j + al)) fun (j : Nat) => wl (j + al))
 nl ci
 (S.misT nl (fun (j : Nat) => vl (j + al)) (fun (j : Nat) => gl (j + al)) fun (j : Nat) =>
 wl (j + al))
 (S.firF
 (fun (x : Int) =>
 S.slP nl (fun (j : Nat) => vl (j + al)) (fun (j : Nat) => gl (j + al))
 (fun (j : Nat) => wl (j + al)) (Int.toNat ci) x)
 (Int.toNat (wl (Int.toNat ci + al) - gl (Int.toNat ci + al) + (1 : Int))) (0 : Int)))))
 j))))
 fun (j : Nat) =>
 Prod.snd
 (Prod.snd
 (Prod.snd
 (S.at'
 (S.withL nl (fun (j : Nat) => tl (j + al)) (fun (j : Nat) => vl (j + al))
 (fun (j : Nat) => gl (j + al)) (fun (j : Nat) => wl (j + al)) (Int.toNat ci)
 (Prod.fst
 (S.slkS
 (S.tskS nl (fun (j : Nat) => tl (j + al)) (fun (j : Nat) => vl (j + al))
 (fun (j : Nat) => gl (j + al)) fun (j : Nat) => wl (j + al))
 nl ci
 (S.misT nl (fun (j : Nat) => vl (j + al)) (fun (j : Nat) => gl (j + al)) fun (j : Nat) =>
 wl (j + al))
 (S.firF
 (fun (x : Int) =>
 S.slP nl (fun (j : Nat) => vl (j + al)) (fun (j : Nat) => gl (j + al))
 (fun (j : Nat) => wl (j + al)) (Int.toNat ci) x)
 (Int.toNat (wl (Int.toNat ci + al) - gl (Int.toNat ci + al) + (1 : Int))) (0 : Int)))))
 j))))
 (S.misT
 (List.length
 (S.withL nl (fun (j : Nat) => tl (j + al)) (fun (j : Nat) => vl (j + al)) (fun (j : Nat) => gl (j + al))
 (fun (j : Nat) => wl (j + al)) (Int.toNat ci)
 (Prod.fst
 (S.slkS
 (S.tskS nl (fun (j : Nat) => tl (j + al)) (fun (j : Nat) => vl (j + al))
 (fun (j : Nat) => gl (j + al)) fun (j : Nat) => wl (j + al))
 nl ci
 (S.misT nl (fun (j : Nat) => vl (j + al)) (fun (j : Nat) => gl (j + al)) fun (j : Nat) =>
 wl (j + al))
 (S.firF
 (fun (x : Int) =>
 S.slP nl (fun (j : Nat) => vl (j + al)) (fun (j : Nat) => gl (j + al))
 (fun (j : Nat) => wl (j + al)) (Int.toNat ci) x)
 (Int.toNat (wl (Int.toNat ci + al) - gl (Int.toNat ci + al) + (1 : Int))) (0 : Int))))))
 (fun (j : Nat) =>
 Prod.fst
 (Prod.snd
 (S.at'
 (S.withL nl (fun (j : Nat) => tl (j + al)) (fun (j : Nat) => vl (j + al))
 (fun (j : Nat) => gl (j + al)) (fun (j : Nat) => wl (j + al)) (Int.toNat ci)
 (Prod.fst
 (S.slkS
 (S.tskS nl (fun (j : Nat) => tl (j + al)) (fun (j : Nat) => vl (j + al))
 (fun (j : Nat) => gl (j + al)) fun (j : Nat) => wl (j + al))
 nl ci
 (S.misT nl (fun (j : Nat) => vl (j + al)) (fun (j : Nat) => gl (j + al)) fun (j : Nat) =>
 wl (j + al))
 (S.firF
 (fun (x : Int) =>
 S.slP nl (fun (j : Nat) => vl (j + al)) (fun (j : Nat) => gl (j + al))
 (fun (j : Nat) => wl (j + al)) (Int.toNat ci) x)
 (Int.toNat (wl (Int.toNat ci + al) - gl (Int.toNat ci + al) + (1 : Int))) (0 : Int)))))
 j)))
 (fun (j : Nat) =>
 Prod.fst
 (Prod.snd
 (Prod.snd
 (S.at'
 (S.withL nl (fun (j : Nat) => tl (j + al)) (fun (j : Nat) => vl (j + al))
 (fun (j : Nat) => gl (j + al)) (fun (j : Nat) => wl (j + al)) (Int.toNat ci)
 (Prod.fst
 (S.slkS
 (S.tskS nl (fun (j : Nat) => tl (j + al)) (fun (j : Nat) => vl (j + al))
 (fun (j : Nat) => gl (j + al)) fun (j : Nat) => wl (j + al))
 nl ci
 (S.misT nl (fun (j : Nat) => vl (j + al)) (fun (j : Nat) => gl (j + al)) fun (j : Nat) =>
 wl (j + al))
 (S.firF
 (fun (x : Int) =>
 S.slP nl (fun (j : Nat) => vl (j + al)) (fun (j : Nat) => gl (j + al))
 (fun (j : Nat) => wl (j + al)) (Int.toNat ci) x)
 (Int.toNat (wl (Int.toNat ci + al) - gl (Int.toNat ci + al) + (1 : Int))) (0 : Int)))))
 j))))
 fun (j : Nat) =>
 Prod.snd
 (Prod.snd
 (Prod.snd
 (S.at'
 (S.withL nl (fun (j : Nat) => tl (j + al)) (fun (j : Nat) => vl (j + al))
 (fun (j : Nat) => gl (j + al)) (fun (j : Nat) => wl (j + al)) (Int.toNat ci)
 (Prod.fst
 (S.slkS
 (S.tskS nl (fun (j : Nat) => tl (j + al)) (fun (j : Nat) => vl (j + al))
 (fun (j : Nat) => gl (j + al)) fun (j : Nat) => wl (j + al))
 nl ci
 (S.misT nl (fun (j : Nat) => vl (j + al)) (fun (j : Nat) => gl (j + al)) fun (j : Nat) =>
 wl (j + al))
 (S.firF
 (fun (x : Int) =>
 S.slP nl (fun (j : Nat) => vl (j + al)) (fun (j : Nat) => gl (j + al))
 (fun (j : Nat) => wl (j + al)) (Int.toNat ci) x)
 (Int.toNat (wl (Int.toNat ci + al) - gl (Int.toNat ci + al) + (1 : Int))) (0 : Int)))))
 j))))) ==
 (10 : Int))
 then (bif (Prod.snd
 (S.misS
 (S.tskS
 (List.length
 (S.withL nl (fun (j : Nat) => tl (j + al)) (fun (j : Nat) => vl (j + al)) (fun (j : Nat) => gl (j + al))
 (fun (j : Nat) => wl (j + al)) (Int.toNat ci)
 (Prod.fst
 (S.slkS
 (S.tskS nl (fun (j : Nat) => tl (j + al)) (fun (j : Nat) => vl (j + al))
 (fun (j : Nat) => gl (j + al)) fun (j : Nat) => wl (j + al))
 nl ci
 (S.misT nl (fun (j : Nat) => vl (j + al)) (fun (j : Nat) => gl (j + al)) fun (j : Nat) =>
 wl (j + al))
 (S.firF
 (fun (x : Int) =>
 S.slP nl (fun (j : Nat) => vl (j + al)) (fun (j : Nat) => gl (j + al))
 (fun (j : Nat) => wl (j + al)) (Int.toNat ci) x)
 (Int.toNat (wl (Int.toNat ci + al) - gl (Int.toNat ci + al) + (1 : Int))) (0 : Int))) +
 (1 : Int))))
 (fun (j : Nat) =>
 Prod.fst
 (S.at'
 (S.withL nl (fun (j : Nat) => tl (j + al)) (fun (j : Nat) => vl (j + al))
 (fun (j : Nat) => gl (j + al)) (fun (j : Nat) => wl (j + al)) (Int.toNat ci)
 (Prod.fst
 (S.slkS
 (S.tskS nl (fun (j : Nat) => tl (j + al)) (fun (j : Nat) => vl (j + al))
 (fun (j : Nat) => gl (j + al)) fun (j : Nat) => wl (j + al))
 nl ci
 (S.misT nl (fun (j : Nat) => vl (j + al)) (fun (j : Nat) => gl (j + al)) fun (j : Nat) =>
 wl (j + al))
 (S.firF
 (fun (x : Int) =>
 S.slP nl (fun (j : Nat) => vl (j + al)) (fun (j : Nat) => gl (j + al))
 (fun (j : Nat) => wl (j + al)) (Int.toNat ci) x)
 (Int.toNat (wl (Int.toNat ci + al) - gl (Int.toNat ci + al) + (1 : Int))) (0 : Int))) +
 (1 : Int)))
 j))
 (fun (j : Nat) =>
 Prod.fst
 (Prod.snd
 (S.at'
 (S.withL nl (fun (j : Nat) => tl (j + al)) (fun (j : Nat) => vl (j + al))
 (fun (j : Nat) => gl (j + al)) (fun (j : Nat) => wl (j + al)) (Int.toNat ci)
 (Prod.fst
 (S.slkS
 (S.tskS nl (fun (j : Nat) => tl (j + al)) (fun (j : Nat) => vl (j + al))
 (fun (j : Nat) => gl (j + al)) fun (j : Nat) => wl (j + al))
 nl ci
 (S.misT nl (fun (j : Nat) => vl (j + al)) (fun (j : Nat) => gl (j + al)) fun (j : Nat) =>
 wl (j + al))
 (S.firF
 (fun (x : Int) =>
 S.slP nl (fun (j : Nat) => vl (j + al)) (fun (j : Nat) => gl (j + al))
 (fun (j : Nat) => wl (j + al)) (Int.toNat ci) x)
 (Int.toNat (wl (Int.toNat ci + al) - gl (Int.toNat ci + al) + (1 : Int))) (0 : Int))) +
 (1 : Int)))
 j)))
 (fun (j : Nat) =>
 Prod.fst
 (Prod.snd
 (Prod.snd
 (S.at'
 (S.withL nl (fun (j : Nat) => tl (j + al)) (fun (j : Nat) => vl (j + al))
 (fun (j : Nat) => gl (j + al)) (fun (j : Nat) => wl (j + al)) (Int.toNat ci)
 (Prod.fst
 (S.slkS
 (S.tskS nl (fun (j : Nat) => tl (j + al)) (fun (j : Nat) => vl (j + al))
 (fun (j : Nat) => gl (j + al)) fun (j : Nat) => wl (j + al))
 nl ci
 (S.misT nl (fun (j : Nat) => vl (j + al)) (fun (j : Nat) => gl (j + al))
 fun (j : Nat) => wl (j + al))
 (S.firF
 (fun (x : Int) =>
 S.slP nl (fun (j : Nat) => vl (j + al)) (fun (j : Nat) => gl (j + al))
 (fun (j : Nat) => wl (j + al)) (Int.toNat ci) x)
 (Int.toNat (wl (Int.toNat ci + al) - gl (Int.toNat ci + al) + (1 : Int))) (0 : Int))) +
 (1 : Int)))
 j))))
 fun (j : Nat) =>
 Prod.snd
 (Prod.snd
 (Prod.snd
 (S.at'
 (S.withL nl (fun (j : Nat) => tl (j + al)) (fun (j : Nat) => vl (j + al))
 (fun (j : Nat) => gl (j + al)) (fun (j : Nat) => wl (j + al)) (Int.toNat ci)
 (Prod.fst
 (S.slkS
 (S.tskS nl (fun (j : Nat) => tl (j + al)) (fun (j : Nat) => vl (j + al))
 (fun (j : Nat) => gl (j + al)) fun (j : Nat) => wl (j + al))
 nl ci
 (S.misT nl (fun (j : Nat) => vl (j + al)) (fun (j : Nat) => gl (j + al)) fun (j : Nat) =>
 wl (j + al))
 (S.firF
 (fun (x : Int) =>
 S.slP nl (fun (j : Nat) => vl (j + al)) (fun (j : Nat) => gl (j + al))
 (fun (j : Nat) => wl (j + al)) (Int.toNat ci) x)
 (Int.toNat (wl (Int.toNat ci + al) - gl (Int.toNat ci + al) + (1 : Int))) (0 : Int))) +
 (1 : Int)))
 j))))
 (S.misT
 (List.length
 (S.withL nl (fun (j : Nat) => tl (j + al)) (fun (j : Nat) => vl (j + al)) (fun (j : Nat) => gl (j + al))
 (fun (j : Nat) => wl (j + al)) (Int.toNat ci)
 (Prod.fst
 (S.slkS
 (S.tskS nl (fun (j : Nat) => tl (j + al)) (fun (j : Nat) => vl (j + al))
 (fun (j : Nat) => gl (j + al)) fun (j : Nat) => wl (j + al))
 nl ci
 (S.misT nl (fun (j : Nat) => vl (j + al)) (fun (j : Nat) => gl (j + al)) fun (j : Nat) =>
 wl (j + al))
 (S.firF
 (fun (x : Int) =>
 S.slP nl (fun (j : Nat) => vl (j + al)) (fun (j : Nat) => gl (j + al))
 (fun (j : Nat) => wl (j + al)) (Int.toNat ci) x)
 (Int.toNat (wl (Int.toNat ci + al) - gl (Int.toNat ci + al) + (1 : Int))) (0 : Int))) +
 (1 : Int))))
 (fun (j : Nat) =>
 Prod.fst
 (Prod.snd
 (S.at'
 (S.withL nl (fun (j : Nat) => tl (j + al)) (fun (j : Nat) => vl (j + al))
 (fun (j : Nat) => gl (j + al)) (fun (j : Nat) => wl (j + al)) (Int.toNat ci)
 (Prod.fst
 (S.slkS
 (S.tskS nl (fun (j : Nat) => tl (j + al)) (fun (j : Nat) => vl (j + al))
 (fun (j : Nat) => gl (j + al)) fun (j : Nat) => wl (j + al))
 nl ci
 (S.misT nl (fun (j : Nat) => vl (j + al)) (fun (j : Nat) => gl (j + al)) fun (j : Nat) =>
 wl (j + al))
 (S.firF
 (fun (x : Int) =>
 S.slP nl (fun (j : Nat) => vl (j + al)) (fun (j : Nat) => gl (j + al))
 (fun (j : Nat) => wl (j + al)) (Int.toNat ci) x)
 (Int.toNat (wl (Int.toNat ci + al) - gl (Int.toNat ci + al) + (1 : Int))) (0 : Int))) +
 (1 : Int)))
 j)))
 (fun (j : Nat) =>
 Prod.fst
 (Prod.snd
 (Prod.snd
 (S.at'
 (S.withL nl (fun (j : Nat) => tl (j + al)) (fun (j : Nat) => vl (j + al))
 (fun (j : Nat) => gl (j + al)) (fun (j : Nat) => wl (j + al)) (Int.toNat ci)
 (Prod.fst
 (S.slkS
 (S.tskS nl (fun (j : Nat) => tl (j + al)) (fun (j : Nat) => vl (j + al))
 (fun (j : Nat) => gl (j + al)) fun (j : Nat) => wl (j + al))
 nl ci
 (S.misT nl (fun (j : Nat) => vl (j + al)) (fun (j : Nat) => gl (j + al))
 fun (j : Nat) => wl (j + al))
 (S.firF
 (fun (x : Int) =>
 S.slP nl (fun (j : Nat) => vl (j + al)) (fun (j : Nat) => gl (j + al))
 (fun (j : Nat) => wl (j + al)) (Int.toNat ci) x)
 (Int.toNat (wl (Int.toNat ci + al) - gl (Int.toNat ci + al) + (1 : Int))) (0 : Int))) +
 (1 : Int)))
 j))))
 fun (j : Nat) =>
 Prod.snd
 (Prod.snd
 (Prod.snd
 (S.at'
 (S.withL nl (fun (j : Nat) => tl (j + al)) (fun (j : Nat) => vl (j + al))
 (fun (j : Nat) => gl (j + al)) (fun (j : Nat) => wl (j + al)) (Int.toNat ci)
 (Prod.fst
 (S.slkS
 (S.tskS nl (fun (j : Nat) => tl (j + al)) (fun (j : Nat) => vl (j + al))
 (fun (j : Nat) => gl (j + al)) fun (j : Nat) => wl (j + al))
 nl ci
 (S.misT nl (fun (j : Nat) => vl (j + al)) (fun (j : Nat) => gl (j + al)) fun (j : Nat) =>
 wl (j + al))
 (S.firF
 (fun (x : Int) =>
 S.slP nl (fun (j : Nat) => vl (j + al)) (fun (j : Nat) => gl (j + al))
 (fun (j : Nat) => wl (j + al)) (Int.toNat ci) x)
 (Int.toNat (wl (Int.toNat ci + al) - gl (Int.toNat ci + al) + (1 : Int))) (0 : Int))) +
 (1 : Int)))
 j))))) !=
 (10 : Int))
 then (some (.inr (true)))
 else (some (.inr (false))))
 else (some (.inr (false))))
 else (none))
 else (none))
 else (none))
 else (none))
 else (none)))))
 else (none))
 else (none))
 else (some (.inr (true))))
 else (none)
noncomputable def Te10 (test : Bool → Prop → Prop → Prop) (Kst : KS) (Kret : KR) (al nl ml : Nat) (tl : Nat → ByteArray) (vl : Nat → Int) (gl : Nat → Int) (wl : Nat → Int) (ci : Int) : Prop :=
  test (true)
 (test (true)
 (test (decide (al + nl ≤ ml))
 (test (S.fewT nl fun (j : Nat) => tl (j + al))
 (test (decide (al + nl ≤ ml ∧ nl ≤ 1000000))
 (test (decide (0 + nl ≤ nl))
 (test (decide (al + nl ≤ ml))
 (test (Prod.fst
 (S.slkS
 (S.tskS nl (fun (j : Nat) => tl (j + al)) (fun (j : Nat) => vl (j + al)) (fun (j : Nat) => gl (j + al))
 fun (j : Nat) => wl (j + al))
 nl ci (S.misT nl (fun (j : Nat) => vl (j + al)) (fun (j : Nat) => gl (j + al)) fun (j : Nat) => wl (j + al))
 (S.firF
 (fun (x : Int) =>
 S.slP nl (fun (j : Nat) => vl (j + al)) (fun (j : Nat) => gl (j + al)) (fun (j : Nat) => wl (j + al))
 (Int.toNat ci) x)
 (Int.toNat (wl (Int.toNat ci + al) - gl (Int.toNat ci + al) + (1 : Int))) (0 : Int))) !=
 Prod.fst
 (S.slkS
 (S.tskS nl (fun (j : Nat) => tl (j + al)) (fun (j : Nat) => vl (j + al)) (fun (j : Nat) => gl (j + al))
 fun (j : Nat) => wl (j + al))
 nl ci (S.misT nl (fun (j : Nat) => vl (j + al)) (fun (j : Nat) => gl (j + al)) fun (j : Nat) => wl (j + al))
 (S.firF
 (fun (x : Int) =>
 S.slP nl (fun (j : Nat) => vl (j + al)) (fun (j : Nat) => gl (j + al)) (fun (j : Nat) => wl (j + al))
 (Int.toNat ci) x)
 (Int.toNat (wl (Int.toNat ci + al) - gl (Int.toNat ci + al) + (1 : Int))) (0 : Int))))
 (test (Prod.fst
 (S.slkS
 (S.tskS nl (fun (j : Nat) => tl (j + al)) (fun (j : Nat) => vl (j + al)) (fun (j : Nat) => gl (j + al))
 fun (j : Nat) => wl (j + al))
 nl ci (S.misT nl (fun (j : Nat) => vl (j + al)) (fun (j : Nat) => gl (j + al)) fun (j : Nat) => wl (j + al))
 (S.firF
 (fun (x : Int) =>
 S.slP nl (fun (j : Nat) => vl (j + al)) (fun (j : Nat) => gl (j + al)) (fun (j : Nat) => wl (j + al))
 (Int.toNat ci) x)
 (Int.toNat (wl (Int.toNat ci + al) - gl (Int.toNat ci + al) + (1 : Int))) (0 : Int))) ==
 Prod.fst
 (S.slkS
 (S.tskS nl (fun (j : Nat) => tl (j + al)) (fun (j : Nat) => vl (j + al)) (fun (j : Nat) => gl (j + al))
 fun (j : Nat) => wl (j + al))
 nl ci (S.misT nl (fun (j : Nat) => vl (j + al)) (fun (j : Nat) => gl (j + al)) fun (j : Nat) => wl (j + al))
 (S.firF
 (fun (x : Int) =>
 S.slP nl (fun (j : Nat) => vl (j + al)) (fun (j : Nat) => gl (j + al)) (fun (j : Nat) => wl (j + al))
 (Int.toNat ci) x)
 (Int.toNat (wl (Int.toNat ci + al) - gl (Int.toNat ci + al) + (1 : Int))) (0 : Int))))
 (test (Prod.snd
 (S.slkS
 (S.tskS nl (fun (j : Nat) => tl (j + al)) (fun (j : Nat) => vl (j + al)) (fun (j : Nat) => gl (j + al))
 fun (j : Nat) => wl (j + al))
 nl ci (S.misT nl (fun (j : Nat) => vl (j + al)) (fun (j : Nat) => gl (j + al)) fun (j : Nat) => wl (j + al))
 (S.firF
 (fun (x : Int) =>
 S.slP nl (fun (j : Nat) => vl (j + al)) (fun (j : Nat) => gl (j + al)) (fun (j : Nat) => wl (j + al))
 (Int.toNat ci) x)
 (Int.toNat (wl (Int.toNat ci + al) - gl (Int.toNat ci + al) + (1 : Int))) (0 : Int))) ==
 Prod.snd
 (S.slkS
 (S.tskS nl (fun (j : Nat) => tl (j + al)) (fun (j : Nat) => vl (j + al)) (fun (j : Nat) => gl (j + al))
 fun (j : Nat) => wl (j + al))
 nl ci (S.misT nl (fun (j : Nat) => vl (j + al)) (fun (j : Nat) => gl (j + al)) fun (j : Nat) => wl (j + al))
 (S.firF
 (fun (x : Int) =>
 S.slP nl (fun (j : Nat) => vl (j + al)) (fun (j : Nat) => gl (j + al)) (fun (j : Nat) => wl (j + al))
 (Int.toNat ci) x)
 (Int.toNat (wl (Int.toNat ci + al) - gl (Int.toNat ci + al) + (1 : Int))) (0 : Int))))
 (Kret (PV.tf true) ([[(0, false,
 Blk.cols ml
 [Col.str tl, Col.int IntKind.i64 vl, Col.int IntKind.i64 gl,
 Col.int IntKind.i64 wl])]]) (7))
 (Kret (PV.tf false) ([[(0, false,
 Blk.cols ml
 [Col.str tl, Col.int IntKind.i64 vl, Col.int IntKind.i64 gl,
 Col.int IntKind.i64 wl])]]) (7)))
 (Kret (PV.tf false) ([[(0, false,
 Blk.cols ml
 [Col.str tl, Col.int IntKind.i64 vl, Col.int IntKind.i64 gl,
 Col.int IntKind.i64 wl])]]) (7)))
 (test (Prod.snd
 (S.slkS
 (S.tskS nl (fun (j : Nat) => tl (j + al)) (fun (j : Nat) => vl (j + al)) (fun (j : Nat) => gl (j + al))
 fun (j : Nat) => wl (j + al))
 nl ci (S.misT nl (fun (j : Nat) => vl (j + al)) (fun (j : Nat) => gl (j + al)) fun (j : Nat) => wl (j + al))
 (S.firF
 (fun (x : Int) =>
 S.slP nl (fun (j : Nat) => vl (j + al)) (fun (j : Nat) => gl (j + al)) (fun (j : Nat) => wl (j + al))
 (Int.toNat ci) x)
 (Int.toNat (wl (Int.toNat ci + al) - gl (Int.toNat ci + al) + (1 : Int))) (0 : Int))) !=
 Prod.snd
 (S.slkS
 (S.tskS nl (fun (j : Nat) => tl (j + al)) (fun (j : Nat) => vl (j + al)) (fun (j : Nat) => gl (j + al))
 fun (j : Nat) => wl (j + al))
 nl ci (S.misT nl (fun (j : Nat) => vl (j + al)) (fun (j : Nat) => gl (j + al)) fun (j : Nat) => wl (j + al))
 (S.firF
 (fun (x : Int) =>
 S.slP nl (fun (j : Nat) => vl (j + al)) (fun (j : Nat) => gl (j + al)) (fun (j : Nat) => wl (j + al))
 (Int.toNat ci) x)
 (Int.toNat (wl (Int.toNat ci + al) - gl (Int.toNat ci + al) + (1 : Int))) (0 : Int))))
 (test (Prod.fst
 (S.slkS
 (S.tskS nl (fun (j : Nat) => tl (j + al)) (fun (j : Nat) => vl (j + al)) (fun (j : Nat) => gl (j + al))
 fun (j : Nat) => wl (j + al))
 nl ci (S.misT nl (fun (j : Nat) => vl (j + al)) (fun (j : Nat) => gl (j + al)) fun (j : Nat) => wl (j + al))
 (S.firF
 (fun (x : Int) =>
 S.slP nl (fun (j : Nat) => vl (j + al)) (fun (j : Nat) => gl (j + al)) (fun (j : Nat) => wl (j + al))
 (Int.toNat ci) x)
 (Int.toNat (wl (Int.toNat ci + al) - gl (Int.toNat ci + al) + (1 : Int))) (0 : Int))) ==
 Prod.fst
 (S.slkS
 (S.tskS nl (fun (j : Nat) => tl (j + al)) (fun (j : Nat) => vl (j + al)) (fun (j : Nat) => gl (j + al))
 fun (j : Nat) => wl (j + al))
 nl ci (S.misT nl (fun (j : Nat) => vl (j + al)) (fun (j : Nat) => gl (j + al)) fun (j : Nat) => wl (j + al))
 (S.firF
 (fun (x : Int) =>
 S.slP nl (fun (j : Nat) => vl (j + al)) (fun (j : Nat) => gl (j + al)) (fun (j : Nat) => wl (j + al))
 (Int.toNat ci) x)
 (Int.toNat (wl (Int.toNat ci + al) - gl (Int.toNat ci + al) + (1 : Int))) (0 : Int))))
 (test (Prod.snd
 (S.slkS
 (S.tskS nl (fun (j : Nat) => tl (j + al)) (fun (j : Nat) => vl (j + al)) (fun (j : Nat) => gl (j + al))
 fun (j : Nat) => wl (j + al))
 nl ci (S.misT nl (fun (j : Nat) => vl (j + al)) (fun (j : Nat) => gl (j + al)) fun (j : Nat) => wl (j + al))
 (S.firF
 (fun (x : Int) =>
 S.slP nl (fun (j : Nat) => vl (j + al)) (fun (j : Nat) => gl (j + al)) (fun (j : Nat) => wl (j + al))
 (Int.toNat ci) x)
 (Int.toNat (wl (Int.toNat ci + al) - gl (Int.toNat ci + al) + (1 : Int))) (0 : Int))) ==
 Prod.snd
 (S.slkS
 (S.tskS nl (fun (j : Nat) => tl (j + al)) (fun (j : Nat) => vl (j + al)) (fun (j : Nat) => gl (j + al))
 fun (j : Nat) => wl (j + al))
 nl ci (S.misT nl (fun (j : Nat) => vl (j + al)) (fun (j : Nat) => gl (j + al)) fun (j : Nat) => wl (j + al))
 (S.firF
 (fun (x : Int) =>
 S.slP nl (fun (j : Nat) => vl (j + al)) (fun (j : Nat) => gl (j + al)) (fun (j : Nat) => wl (j + al))
 (Int.toNat ci) x)
 (Int.toNat (wl (Int.toNat ci + al) - gl (Int.toNat ci + al) + (1 : Int))) (0 : Int))))
 (Kret (PV.tf true) ([[(0, false,
 Blk.cols ml
 [Col.str tl, Col.int IntKind.i64 vl, Col.int IntKind.i64 gl,
 Col.int IntKind.i64 wl])]]) (7))
 (Kret (PV.tf false) ([[(0, false,
 Blk.cols ml
 [Col.str tl, Col.int IntKind.i64 vl, Col.int IntKind.i64 gl,
 Col.int IntKind.i64 wl])]]) (7)))
 (Kret (PV.tf false) ([[(0, false,
 Blk.cols ml
 [Col.str tl, Col.int IntKind.i64 vl, Col.int IntKind.i64 gl,
 Col.int IntKind.i64 wl])]]) (7)))
 (test (Prod.snd
 (S.slkS
 (S.tskS nl (fun (j : Nat) => tl (j + al)) (fun (j : Nat) => vl (j + al)) (fun (j : Nat) => gl (j + al))
 fun (j : Nat) => wl (j + al))
 nl ci (S.misT nl (fun (j : Nat) => vl (j + al)) (fun (j : Nat) => gl (j + al)) fun (j : Nat) => wl (j + al))
 (S.firF
 (fun (x : Int) =>
 S.slP nl (fun (j : Nat) => vl (j + al)) (fun (j : Nat) => gl (j + al)) (fun (j : Nat) => wl (j + al))
 (Int.toNat ci) x)
 (Int.toNat (wl (Int.toNat ci + al) - gl (Int.toNat ci + al) + (1 : Int))) (0 : Int))) !=
 (0 : Int))
 (test (Prod.fst
 (S.slkS
 (S.tskS nl (fun (j : Nat) => tl (j + al)) (fun (j : Nat) => vl (j + al)) (fun (j : Nat) => gl (j + al))
 fun (j : Nat) => wl (j + al))
 nl ci (S.misT nl (fun (j : Nat) => vl (j + al)) (fun (j : Nat) => gl (j + al)) fun (j : Nat) => wl (j + al))
 (S.firF
 (fun (x : Int) =>
 S.slP nl (fun (j : Nat) => vl (j + al)) (fun (j : Nat) => gl (j + al)) (fun (j : Nat) => wl (j + al))
 (Int.toNat ci) x)
 (Int.toNat (wl (Int.toNat ci + al) - gl (Int.toNat ci + al) + (1 : Int))) (0 : Int))) ==
 Prod.fst
 (S.slkS
 (S.tskS nl (fun (j : Nat) => tl (j + al)) (fun (j : Nat) => vl (j + al)) (fun (j : Nat) => gl (j + al))
 fun (j : Nat) => wl (j + al))
 nl ci (S.misT nl (fun (j : Nat) => vl (j + al)) (fun (j : Nat) => gl (j + al)) fun (j : Nat) => wl (j + al))
 (S.firF
 (fun (x : Int) =>
 S.slP nl (fun (j : Nat) => vl (j + al)) (fun (j : Nat) => gl (j + al)) (fun (j : Nat) => wl (j + al))
 (Int.toNat ci) x)
 (Int.toNat (wl (Int.toNat ci + al) - gl (Int.toNat ci + al) + (1 : Int))) (0 : Int))))
 (test (Prod.snd
 (S.slkS
 (S.tskS nl (fun (j : Nat) => tl (j + al)) (fun (j : Nat) => vl (j + al)) (fun (j : Nat) => gl (j + al))
 fun (j : Nat) => wl (j + al))
 nl ci (S.misT nl (fun (j : Nat) => vl (j + al)) (fun (j : Nat) => gl (j + al)) fun (j : Nat) => wl (j + al))
 (S.firF
 (fun (x : Int) =>
 S.slP nl (fun (j : Nat) => vl (j + al)) (fun (j : Nat) => gl (j + al)) (fun (j : Nat) => wl (j + al))
 (Int.toNat ci) x)
 (Int.toNat (wl (Int.toNat ci + al) - gl (Int.toNat ci + al) + (1 : Int))) (0 : Int))) ==
 Prod.snd
 (S.slkS
 (S.tskS nl (fun (j : Nat) => tl (j + al)) (fun (j : Nat) => vl (j + al)) (fun (j : Nat) => gl (j + al))
 fun (j : Nat) => wl (j + al))
 nl ci (S.misT nl (fun (j : Nat) => vl (j + al)) (fun (j : Nat) => gl (j + al)) fun (j : Nat) => wl (j + al))
 (S.firF
 (fun (x : Int) =>
 S.slP nl (fun (j : Nat) => vl (j + al)) (fun (j : Nat) => gl (j + al)) (fun (j : Nat) => wl (j + al))
 (Int.toNat ci) x)
 (Int.toNat (wl (Int.toNat ci + al) - gl (Int.toNat ci + al) + (1 : Int))) (0 : Int))))
 (Kret (PV.tf true) ([[(0, false,
 Blk.cols ml
 [Col.str tl, Col.int IntKind.i64 vl, Col.int IntKind.i64 gl,
 Col.int IntKind.i64 wl])]]) (7))
 (Kret (PV.tf false) ([[(0, false,
 Blk.cols ml
 [Col.str tl, Col.int IntKind.i64 vl, Col.int IntKind.i64 gl,
 Col.int IntKind.i64 wl])]]) (7)))
 (Kret (PV.tf false) ([[(0, false,
 Blk.cols ml
 [Col.str tl, Col.int IntKind.i64 vl, Col.int IntKind.i64 gl,
 Col.int IntKind.i64 wl])]]) (7)))
 (test (decide
 (al + nl ≤ ml ∧
 ((0 : Int) ≤ ci ∧ ci < (↑nl : Int)) ∧
 (S.okT nl (fun (j : Nat) => vl (j + al)) (fun (j : Nat) => gl (j + al)) fun (j : Nat) => wl (j + al)) =
 true ∧
 (0 : Int) ≤
 Prod.fst
 (S.slkS
 (S.tskS nl (fun (j : Nat) => tl (j + al)) (fun (j : Nat) => vl (j + al))
 (fun (j : Nat) => gl (j + al)) fun (j : Nat) => wl (j + al))
 nl ci
 (S.misT nl (fun (j : Nat) => vl (j + al)) (fun (j : Nat) => gl (j + al)) fun (j : Nat) =>
 wl (j + al))
 (S.firF
 (fun (x : Int) =>
 S.slP nl (fun (j : Nat) => vl (j + al)) (fun (j : Nat) => gl (j + al))
 (fun (j : Nat) => wl (j + al)) (Int.toNat ci) x)
 (Int.toNat (wl (Int.toNat ci + al) - gl (Int.toNat ci + al) + (1 : Int))) (0 : Int))) ∧
 Prod.fst
 (S.slkS
 (S.tskS nl (fun (j : Nat) => tl (j + al)) (fun (j : Nat) => vl (j + al))
 (fun (j : Nat) => gl (j + al)) fun (j : Nat) => wl (j + al))
 nl ci
 (S.misT nl (fun (j : Nat) => vl (j + al)) (fun (j : Nat) => gl (j + al)) fun (j : Nat) =>
 wl (j + al))
 (S.firF
 (fun (x : Int) =>
 S.slP nl (fun (j : Nat) => vl (j + al)) (fun (j : Nat) => gl (j + al))
 (fun (j : Nat) => wl (j + al)) (Int.toNat ci) x)
 (Int.toNat (wl (Int.toNat ci + al) - gl (Int.toNat ci + al) + (1 : Int))) (0 : Int))) ≤
 (10000000 : Int)))
 (test (decide
 (0 +
 List.length
 (S.withL nl (fun (j : Nat) => tl (j + al)) (fun (j : Nat) => vl (j + al)) (fun (j : Nat) => gl (j + al))
 (fun (j : Nat) => wl (j + al)) (Int.toNat ci)
 (Prod.fst
 (S.slkS
 (S.tskS nl (fun (j : Nat) => tl (j + al)) (fun (j : Nat) => vl (j + al))
 (fun (j : Nat) => gl (j + al)) fun (j : Nat) => wl (j + al))
 nl ci
 (S.misT nl (fun (j : Nat) => vl (j + al)) (fun (j : Nat) => gl (j + al)) fun (j : Nat) =>
 wl (j + al))
 (S.firF
 (fun (x : Int) =>
 S.slP nl (fun (j : Nat) => vl (j + al)) (fun (j : Nat) => gl (j + al))
 (fun (j : Nat) => wl (j + al)) (Int.toNat ci) x)
 (Int.toNat (wl (Int.toNat ci + al) - gl (Int.toNat ci + al) + (1 : Int))) (0 : Int))))) ≤
 List.length
 (S.withL nl (fun (j : Nat) => tl (j + al)) (fun (j : Nat) => vl (j + al)) (fun (j : Nat) => gl (j + al))
 (fun (j : Nat) => wl (j + al)) (Int.toNat ci)
 (Prod.fst
 (S.slkS
 (S.tskS nl (fun (j : Nat) => tl (j + al)) (fun (j : Nat) => vl (j + al))
 (fun (j : Nat) => gl (j + al)) fun (j : Nat) => wl (j + al))
 nl ci
 (S.misT nl (fun (j : Nat) => vl (j + al)) (fun (j : Nat) => gl (j + al)) fun (j : Nat) => wl (j + al))
 (S.firF
 (fun (x : Int) =>
 S.slP nl (fun (j : Nat) => vl (j + al)) (fun (j : Nat) => gl (j + al))
 (fun (j : Nat) => wl (j + al)) (Int.toNat ci) x)
 (Int.toNat (wl (Int.toNat ci + al) - gl (Int.toNat ci + al) + (1 : Int))) (0 : Int)))))))
 (test (lim IntKind.i64
 (Prod.fst
 (S.slkS
 (S.tskS nl (fun (j : Nat) => tl (j + al)) (fun (j : Nat) => vl (j + al)) (fun (j : Nat) => gl (j + al))
 fun (j : Nat) => wl (j + al))
 nl ci
 (S.misT nl (fun (j : Nat) => vl (j + al)) (fun (j : Nat) => gl (j + al)) fun (j : Nat) => wl (j + al))
 (S.firF
 (fun (x : Int) =>
 S.slP nl (fun (j : Nat) => vl (j + al)) (fun (j : Nat) => gl (j + al)) (fun (j : Nat) => wl (j + al))
 (Int.toNat ci) x)
 (Int.toNat (wl (Int.toNat ci + al) - gl (Int.toNat ci + al) + (1 : Int))) (0 : Int))) +
 (1 : Int)))
 (test (decide
 (al + nl ≤ ml ∧
 ((0 : Int) ≤ ci ∧ ci < (↑nl : Int)) ∧
 (S.okT nl (fun (j : Nat) => vl (j + al)) (fun (j : Nat) => gl (j + al)) fun (j : Nat) => wl (j + al)) =
 true ∧
 (0 : Int) ≤
 Prod.fst
 (S.slkS
 (S.tskS nl (fun (j : Nat) => tl (j + al)) (fun (j : Nat) => vl (j + al))
 (fun (j : Nat) => gl (j + al)) fun (j : Nat) => wl (j + al))
 nl ci
 (S.misT nl (fun (j : Nat) => vl (j + al)) (fun (j : Nat) => gl (j + al)) fun (j : Nat) =>
 wl (j + al))
 (S.firF
 (fun (x : Int) =>
 S.slP nl (fun (j : Nat) => vl (j + al)) (fun (j : Nat) => gl (j + al))
 (fun (j : Nat) => wl (j + al)) (Int.toNat ci) x)
 (Int.toNat (wl (Int.toNat ci + al) - gl (Int.toNat ci + al) + (1 : Int))) (0 : Int))) +
 (1 : Int) ∧
 Prod.fst
 (S.slkS
 (S.tskS nl (fun (j : Nat) => tl (j + al)) (fun (j : Nat) => vl (j + al))
 (fun (j : Nat) => gl (j + al)) fun (j : Nat) => wl (j + al))
 nl ci
 (S.misT nl (fun (j : Nat) => vl (j + al)) (fun (j : Nat) => gl (j + al)) fun (j : Nat) =>
 wl (j + al))
 (S.firF
 (fun (x : Int) =>
 S.slP nl (fun (j : Nat) => vl (j + al)) (fun (j : Nat) => gl (j + al))
 (fun (j : Nat) => wl (j + al)) (Int.toNat ci) x)
 (Int.toNat (wl (Int.toNat ci + al) - gl (Int.toNat ci + al) + (1 : Int))) (0 : Int))) +
 (1 : Int) ≤
 (10000000 : Int)))
 (test (decide
 (0 +
 List.length
 (S.withL nl (fun (j : Nat) => tl (j + al)) (fun (j : Nat) => vl (j + al)) (fun (j : Nat) => gl (j + al))
 (fun (j : Nat) => wl (j + al)) (Int.toNat ci)
 (Prod.fst
 (S.slkS
 (S.tskS nl (fun (j : Nat) => tl (j + al)) (fun (j : Nat) => vl (j + al))
 (fun (j : Nat) => gl (j + al)) fun (j : Nat) => wl (j + al))
 nl ci
 (S.misT nl (fun (j : Nat) => vl (j + al)) (fun (j : Nat) => gl (j + al)) fun (j : Nat) =>
 wl (j + al))
 (S.firF
 (fun (x : Int) =>
 S.slP nl (fun (j : Nat) => vl (j + al)) (fun (j : Nat) => gl (j + al))
 (fun (j : Nat) => wl (j + al)) (Int.toNat ci) x)
 (Int.toNat (wl (Int.toNat ci + al) - gl (Int.toNat ci + al) + (1 : Int))) (0 : Int))) +
 (1 : Int))) ≤
 List.length
 (S.withL nl (fun (j : Nat) => tl (j + al)) (fun (j : Nat) => vl (j + al)) (fun (j : Nat) => gl (j + al))
 (fun (j : Nat) => wl (j + al)) (Int.toNat ci)
 (Prod.fst
 (S.slkS
 (S.tskS nl (fun (j : Nat) => tl (j + al)) (fun (j : Nat) => vl (j + al))
 (fun (j : Nat) => gl (j + al)) fun (j : Nat) => wl (j + al))
 nl ci
 (S.misT nl (fun (j : Nat) => vl (j + al)) (fun (j : Nat) => gl (j + al)) fun (j : Nat) =>
 wl (j + al))
 (S.firF
 (fun (x : Int) =>
 S.slP nl (fun (j : Nat) => vl (j + al)) (fun (j : Nat) => gl (j + al))
 (fun (j : Nat) => wl (j + al)) (Int.toNat ci) x)
 (Int.toNat (wl (Int.toNat ci + al) - gl (Int.toNat ci + al) + (1 : Int))) (0 : Int))) +
 (1 : Int)))))
 (test (Prod.snd
 (S.misS
 (S.tskS
 (List.length
 (S.withL nl (fun (j : Nat) => tl (j + al)) (fun (j : Nat) => vl (j + al)) (fun (j : Nat) => gl (j + al))
 (fun (j : Nat) => wl (j + al)) (Int.toNat ci)
 (Prod.fst
 (S.slkS
 (S.tskS nl (fun (j : Nat) => tl (j + al)) (fun (j : Nat) => vl (j + al))
 (fun (j : Nat) => gl (j + al)) fun (j : Nat) => wl (j + al))
 nl ci
 (S.misT nl (fun (j : Nat) => vl (j + al)) (fun (j : Nat) => gl (j + al)) fun (j : Nat) =>
 wl (j + al))
 (S.firF
 (fun (x : Int) =>
 S.slP nl (fun (j : Nat) => vl (j + al)) (fun (j : Nat) => gl (j + al))
 (fun (j : Nat) => wl (j + al)) (Int.toNat ci) x)
 (Int.toNat (wl (Int.toNat ci + al) - gl (Int.toNat ci + al) + (1 : Int))) (0 : Int))))))
 (fun (j : Nat) =>
 Prod.fst
 (S.at'
 (S.withL nl (fun (j : Nat) => tl (j + al)) (fun (j : Nat) => vl (j + al))
 (fun (j : Nat) => gl (j + al)) (fun (j : Nat) => wl (j + al)) (Int.toNat ci)
 (Prod.fst
 (S.slkS
 (S.tskS nl (fun (j : Nat) => tl (j + al)) (fun (j : Nat) => vl (j + al))
 (fun (j : Nat) => gl (j + al)) fun (j : Nat) => wl (j + al))
 nl ci
 (S.misT nl (fun (j : Nat) => vl (j + al)) (fun (j : Nat) => gl (j + al)) fun (j : Nat) =>
 wl (j + al))
 (S.firF
 (fun (x : Int) =>
 S.slP nl (fun (j : Nat) => vl (j + al)) (fun (j : Nat) => gl (j + al))
 (fun (j : Nat) => wl (j + al)) (Int.toNat ci) x)
 (Int.toNat (wl (Int.toNat ci + al) - gl (Int.toNat ci + al) + (1 : Int))) (0 : Int)))))
 j))
 (fun (j : Nat) =>
 Prod.fst
 (Prod.snd
 (S.at'
 (S.withL nl (fun (j : Nat) => tl (j + al)) (fun (j : Nat) => vl (j + al))
 (fun (j : Nat) => gl (j + al)) (fun (j : Nat) => wl (j + al)) (Int.toNat ci)
 (Prod.fst
 (S.slkS
 (S.tskS nl (fun (j : Nat) => tl (j + al)) (fun (j : Nat) => vl (j + al))
 (fun (j : Nat) => gl (j + al)) fun (j : Nat) => wl (j + al))
 nl ci
 (S.misT nl (fun (j : Nat) => vl (j + al)) (fun (j : Nat) => gl (j + al)) fun (j : Nat) =>
 wl (j + al))
 (S.firF
 (fun (x : Int) =>
 S.slP nl (fun (j : Nat) => vl (j + al)) (fun (j : Nat) => gl (j + al))
 (fun (j : Nat) => wl (j + al)) (Int.toNat ci) x)
 (Int.toNat (wl (Int.toNat ci + al) - gl (Int.toNat ci + al) + (1 : Int))) (0 : Int)))))
 j)))
 (fun (j : Nat) =>
 Prod.fst
 (Prod.snd
 (Prod.snd
 (S.at'
 (S.withL nl (fun (j : Nat) => tl (j + al)) (fun (j : Nat) => vl (j + al))
 (fun (j : Nat) => gl (j + al)) (fun (j : Nat) => wl (j + al)) (Int.toNat ci)
 (Prod.fst
 (S.slkS
 (S.tskS nl (fun (j : Nat) => tl (j + al)) (fun (j : Nat) => vl (j + al))
 (fun (j : Nat) => gl (j + al)) fun (j : Nat) => wl (j + al))
 nl ci
 (S.misT nl (fun (j : Nat) => vl (j + al)) (fun (j : Nat) => gl (j + al)) fun (j : Nat) =>
 wl (j + al))
 (S.firF
 (fun (x : Int) =>
 S.slP nl (fun (j : Nat) => vl (j + al)) (fun (j : Nat) => gl (j + al))
 (fun (j : Nat) => wl (j + al)) (Int.toNat ci) x)
 (Int.toNat (wl (Int.toNat ci + al) - gl (Int.toNat ci + al) + (1 : Int))) (0 : Int)))))
 j))))
 fun (j : Nat) =>
 Prod.snd
 (Prod.snd
 (Prod.snd
 (S.at'
 (S.withL nl (fun (j : Nat) => tl (j + al)) (fun (j : Nat) => vl (j + al))
 (fun (j : Nat) => gl (j + al)) (fun (j : Nat) => wl (j + al)) (Int.toNat ci)
 (Prod.fst
 (S.slkS
 (S.tskS nl (fun (j : Nat) => tl (j + al)) (fun (j : Nat) => vl (j + al))
 (fun (j : Nat) => gl (j + al)) fun (j : Nat) => wl (j + al))
 nl ci
 (S.misT nl (fun (j : Nat) => vl (j + al)) (fun (j : Nat) => gl (j + al)) fun (j : Nat) =>
 wl (j + al))
 (S.firF
 (fun (x : Int) =>
 S.slP nl (fun (j : Nat) => vl (j + al)) (fun (j : Nat) => gl (j + al))
 (fun (j : Nat) => wl (j + al)) (Int.toNat ci) x)
 (Int.toNat (wl (Int.toNat ci + al) - gl (Int.toNat ci + al) + (1 : Int))) (0 : Int)))))
 j))))
 (S.misT
 (List.length
 (S.withL nl (fun (j : Nat) => tl (j + al)) (fun (j : Nat) => vl (j + al)) (fun (j : Nat) => gl (j + al))
 (fun (j : Nat) => wl (j + al)) (Int.toNat ci)
 (Prod.fst
 (S.slkS
 (S.tskS nl (fun (j : Nat) => tl (j + al)) (fun (j : Nat) => vl (j + al))
 (fun (j : Nat) => gl (j + al)) fun (j : Nat) => wl (j + al))
 nl ci
 (S.misT nl (fun (j : Nat) => vl (j + al)) (fun (j : Nat) => gl (j + al)) fun (j : Nat) =>
 wl (j + al))
 (S.firF
 (fun (x : Int) =>
 S.slP nl (fun (j : Nat) => vl (j + al)) (fun (j : Nat) => gl (j + al))
 (fun (j : Nat) => wl (j + al)) (Int.toNat ci) x)
 (Int.toNat (wl (Int.toNat ci + al) - gl (Int.toNat ci + al) + (1 : Int))) (0 : Int))))))
 (fun (j : Nat) =>
 Prod.fst
 (Prod.snd
 (S.at'
 (S.withL nl (fun (j : Nat) => tl (j + al)) (fun (j : Nat) => vl (j + al))
 (fun (j : Nat) => gl (j + al)) (fun (j : Nat) => wl (j + al)) (Int.toNat ci)
 (Prod.fst
 (S.slkS
 (S.tskS nl (fun (j : Nat) => tl (j + al)) (fun (j : Nat) => vl (j + al))
 (fun (j : Nat) => gl (j + al)) fun (j : Nat) => wl (j + al))
 nl ci
 (S.misT nl (fun (j : Nat) => vl (j + al)) (fun (j : Nat) => gl (j + al)) fun (j : Nat) =>
 wl (j + al))
 (S.firF
 (fun (x : Int) =>
 S.slP nl (fun (j : Nat) => vl (j + al)) (fun (j : Nat) => gl (j + al))
 (fun (j : Nat) => wl (j + al)) (Int.toNat ci) x)
 (Int.toNat (wl (Int.toNat ci + al) - gl (Int.toNat ci + al) + (1 : Int))) (0 : Int)))))
 j)))
 (fun (j : Nat) =>
 Prod.fst
 (Prod.snd
 (Prod.snd
 (S.at'
 (S.withL nl (fun (j : Nat) => tl (j + al)) (fun (j : Nat) => vl (j + al))
 (fun (j : Nat) => gl (j + al)) (fun (j : Nat) => wl (j + al)) (Int.toNat ci)
 (Prod.fst
 (S.slkS
 (S.tskS nl (fun (j : Nat) => tl (j + al)) (fun (j : Nat) => vl (j + al))
 (fun (j : Nat) => gl (j + al)) fun (j : Nat) => wl (j + al))
 nl ci
 (S.misT nl (fun (j : Nat) => vl (j + al)) (fun (j : Nat) => gl (j + al)) fun (j : Nat) =>
 wl (j + al))
 (S.firF
 (fun (x : Int) =>
 S.slP nl (fun (j : Nat) => vl (j + al)) (fun (j : Nat) => gl (j + al))
 (fun (j : Nat) => wl (j + al)) (Int.toNat ci) x)
 (Int.toNat (wl (Int.toNat ci + al) - gl (Int.toNat ci + al) + (1 : Int))) (0 : Int)))))
 j))))
 fun (j : Nat) =>
 Prod.snd
 (Prod.snd
 (Prod.snd
 (S.at'
 (S.withL nl (fun (j : Nat) => tl (j + al)) (fun (j : Nat) => vl (j + al))
 (fun (j : Nat) => gl (j + al)) (fun (j : Nat) => wl (j + al)) (Int.toNat ci)
 (Prod.fst
 (S.slkS
 (S.tskS nl (fun (j : Nat) => tl (j + al)) (fun (j : Nat) => vl (j + al))
 (fun (j : Nat) => gl (j + al)) fun (j : Nat) => wl (j + al))
 nl ci
 (S.misT nl (fun (j : Nat) => vl (j + al)) (fun (j : Nat) => gl (j + al)) fun (j : Nat) =>
 wl (j + al))
 (S.firF
 (fun (x : Int) =>
 S.slP nl (fun (j : Nat) => vl (j + al)) (fun (j : Nat) => gl (j + al))
 (fun (j : Nat) => wl (j + al)) (Int.toNat ci) x)
 (Int.toNat (wl (Int.toNat ci + al) - gl (Int.toNat ci + al) + (1 : Int))) (0 : Int)))))
 j))))) ==
 (10 : Int))
 (test (Prod.snd
 (S.misS
 (S.tskS
 (List.length
 (S.withL nl (fun (j : Nat) => tl (j + al)) (fun (j : Nat) => vl (j + al)) (fun (j : Nat) => gl (j + al))
 (fun (j : Nat) => wl (j + al)) (Int.toNat ci)
 (Prod.fst
 (S.slkS
 (S.tskS nl (fun (j : Nat) => tl (j + al)) (fun (j : Nat) => vl (j + al))
 (fun (j : Nat) => gl (j + al)) fun (j : Nat) => wl (j + al))
 nl ci
 (S.misT nl (fun (j : Nat) => vl (j + al)) (fun (j : Nat) => gl (j + al)) fun (j : Nat) =>
 wl (j + al))
 (S.firF
 (fun (x : Int) =>
 S.slP nl (fun (j : Nat) => vl (j + al)) (fun (j : Nat) => gl (j + al))
 (fun (j : Nat) => wl (j + al)) (Int.toNat ci) x)
 (Int.toNat (wl (Int.toNat ci + al) - gl (Int.toNat ci + al) + (1 : Int))) (0 : Int))) +
 (1 : Int))))
 (fun (j : Nat) =>
 Prod.fst
 (S.at'
 (S.withL nl (fun (j : Nat) => tl (j + al)) (fun (j : Nat) => vl (j + al))
 (fun (j : Nat) => gl (j + al)) (fun (j : Nat) => wl (j + al)) (Int.toNat ci)
 (Prod.fst
 (S.slkS
 (S.tskS nl (fun (j : Nat) => tl (j + al)) (fun (j : Nat) => vl (j + al))
 (fun (j : Nat) => gl (j + al)) fun (j : Nat) => wl (j + al))
 nl ci
 (S.misT nl (fun (j : Nat) => vl (j + al)) (fun (j : Nat) => gl (j + al)) fun (j : Nat) =>
 wl (j + al))
 (S.firF
 (fun (x : Int) =>
 S.slP nl (fun (j : Nat) => vl (j + al)) (fun (j : Nat) => gl (j + al))
 (fun (j : Nat) => wl (j + al)) (Int.toNat ci) x)
 (Int.toNat (wl (Int.toNat ci + al) - gl (Int.toNat ci + al) + (1 : Int))) (0 : Int))) +
 (1 : Int)))
 j))
 (fun (j : Nat) =>
 Prod.fst
 (Prod.snd
 (S.at'
 (S.withL nl (fun (j : Nat) => tl (j + al)) (fun (j : Nat) => vl (j + al))
 (fun (j : Nat) => gl (j + al)) (fun (j : Nat) => wl (j + al)) (Int.toNat ci)
 (Prod.fst
 (S.slkS
 (S.tskS nl (fun (j : Nat) => tl (j + al)) (fun (j : Nat) => vl (j + al))
 (fun (j : Nat) => gl (j + al)) fun (j : Nat) => wl (j + al))
 nl ci
 (S.misT nl (fun (j : Nat) => vl (j + al)) (fun (j : Nat) => gl (j + al)) fun (j : Nat) =>
 wl (j + al))
 (S.firF
 (fun (x : Int) =>
 S.slP nl (fun (j : Nat) => vl (j + al)) (fun (j : Nat) => gl (j + al))
 (fun (j : Nat) => wl (j + al)) (Int.toNat ci) x)
 (Int.toNat (wl (Int.toNat ci + al) - gl (Int.toNat ci + al) + (1 : Int))) (0 : Int))) +
 (1 : Int)))
 j)))
 (fun (j : Nat) =>
 Prod.fst
 (Prod.snd
 (Prod.snd
 (S.at'
 (S.withL nl (fun (j : Nat) => tl (j + al)) (fun (j : Nat) => vl (j + al))
 (fun (j : Nat) => gl (j + al)) (fun (j : Nat) => wl (j + al)) (Int.toNat ci)
 (Prod.fst
 (S.slkS
 (S.tskS nl (fun (j : Nat) => tl (j + al)) (fun (j : Nat) => vl (j + al))
 (fun (j : Nat) => gl (j + al)) fun (j : Nat) => wl (j + al))
 nl ci
 (S.misT nl (fun (j : Nat) => vl (j + al)) (fun (j : Nat) => gl (j + al))
 fun (j : Nat) => wl (j + al))
 (S.firF
 (fun (x : Int) =>
 S.slP nl (fun (j : Nat) => vl (j + al)) (fun (j : Nat) => gl (j + al))
 (fun (j : Nat) => wl (j + al)) (Int.toNat ci) x)
 (Int.toNat (wl (Int.toNat ci + al) - gl (Int.toNat ci + al) + (1 : Int))) (0 : Int))) +
 (1 : Int)))
 j))))
 fun (j : Nat) =>
 Prod.snd
 (Prod.snd
 (Prod.snd
 (S.at'
 (S.withL nl (fun (j : Nat) => tl (j + al)) (fun (j : Nat) => vl (j + al))
 (fun (j : Nat) => gl (j + al)) (fun (j : Nat) => wl (j + al)) (Int.toNat ci)
 (Prod.fst
 (S.slkS
 (S.tskS nl (fun (j : Nat) => tl (j + al)) (fun (j : Nat) => vl (j + al))
 (fun (j : Nat) => gl (j + al)) fun (j : Nat) => wl (j + al))
 nl ci
 (S.misT nl (fun (j : Nat) => vl (j + al)) (fun (j : Nat) => gl (j + al)) fun (j : Nat) =>
 wl (j + al))
 (S.firF
 (fun (x : Int) =>
 S.slP nl (fun (j : Nat) => vl (j + al)) (fun (j : Nat) => gl (j + al))
 (fun (j : Nat) => wl (j + al)) (Int.toNat ci) x)
 (Int.toNat (wl (Int.toNat ci + al) - gl (Int.toNat ci + al) + (1 : Int))) (0 : Int))) +
 (1 : Int)))
 j))))
 (S.misT
 (List.length
 (S.withL nl (fun (j : Nat) => tl (j + al)) (fun (j : Nat) => vl (j + al)) (fun (j : Nat) => gl (j + al))
 (fun (j : Nat) => wl (j + al)) (Int.toNat ci)
 (Prod.fst
 (S.slkS
 (S.tskS nl (fun (j : Nat) => tl (j + al)) (fun (j : Nat) => vl (j + al))
 (fun (j : Nat) => gl (j + al)) fun (j : Nat) => wl (j + al))
 nl ci
 (S.misT nl (fun (j : Nat) => vl (j + al)) (fun (j : Nat) => gl (j + al)) fun (j : Nat) =>
 wl (j + al))
 (S.firF
 (fun (x : Int) =>
 S.slP nl (fun (j : Nat) => vl (j + al)) (fun (j : Nat) => gl (j + al))
 (fun (j : Nat) => wl (j + al)) (Int.toNat ci) x)
 (Int.toNat (wl (Int.toNat ci + al) - gl (Int.toNat ci + al) + (1 : Int))) (0 : Int))) +
 (1 : Int))))
 (fun (j : Nat) =>
 Prod.fst
 (Prod.snd
 (S.at'
 (S.withL nl (fun (j : Nat) => tl (j + al)) (fun (j : Nat) => vl (j + al))
 (fun (j : Nat) => gl (j + al)) (fun (j : Nat) => wl (j + al)) (Int.toNat ci)
 (Prod.fst
 (S.slkS
 (S.tskS nl (fun (j : Nat) => tl (j + al)) (fun (j : Nat) => vl (j + al))
 (fun (j : Nat) => gl (j + al)) fun (j : Nat) => wl (j + al))
 nl ci
 (S.misT nl (fun (j : Nat) => vl (j + al)) (fun (j : Nat) => gl (j + al)) fun (j : Nat) =>
 wl (j + al))
 (S.firF
 (fun (x : Int) =>
 S.slP nl (fun (j : Nat) => vl (j + al)) (fun (j : Nat) => gl (j + al))
 (fun (j : Nat) => wl (j + al)) (Int.toNat ci) x)
 (Int.toNat (wl (Int.toNat ci + al) - gl (Int.toNat ci + al) + (1 : Int))) (0 : Int))) +
 (1 : Int)))
 j)))
 (fun (j : Nat) =>
 Prod.fst
 (Prod.snd
 (Prod.snd
 (S.at'
 (S.withL nl (fun (j : Nat) => tl (j + al)) (fun (j : Nat) => vl (j + al))
 (fun (j : Nat) => gl (j + al)) (fun (j : Nat) => wl (j + al)) (Int.toNat ci)
 (Prod.fst
 (S.slkS
 (S.tskS nl (fun (j : Nat) => tl (j + al)) (fun (j : Nat) => vl (j + al))
 (fun (j : Nat) => gl (j + al)) fun (j : Nat) => wl (j + al))
 nl ci
 (S.misT nl (fun (j : Nat) => vl (j + al)) (fun (j : Nat) => gl (j + al))
 fun (j : Nat) => wl (j + al))
 (S.firF
 (fun (x : Int) =>
 S.slP nl (fun (j : Nat) => vl (j + al)) (fun (j : Nat) => gl (j + al))
 (fun (j : Nat) => wl (j + al)) (Int.toNat ci) x)
 (Int.toNat (wl (Int.toNat ci + al) - gl (Int.toNat ci + al) + (1 : Int))) (0 : Int))) +
 (1 : Int)))
 j))))
 fun (j : Nat) =>
 Prod.snd
 (Prod.snd
 (Prod.snd
 (S.at'
 (S.withL nl (fun (j : Nat) => tl (j + al)) (fun (j : Nat) => vl (j + al))
 (fun (j : Nat) => gl (j + al)) (fun (j : Nat) => wl (j + al)) (Int.toNat ci)
 (Prod.fst
 (S.slkS
 (S.tskS nl (fun (j : Nat) => tl (j + al)) (fun (j : Nat) => vl (j + al))
 (fun (j : Nat) => gl (j + al)) fun (j : Nat) => wl (j + al))
 nl ci
 (S.misT nl (fun (j : Nat) => vl (j + al)) (fun (j : Nat) => gl (j + al)) fun (j : Nat) =>
 wl (j + al))
 (S.firF
 (fun (x : Int) =>
 S.slP nl (fun (j : Nat) => vl (j + al)) (fun (j : Nat) => gl (j + al))
 (fun (j : Nat) => wl (j + al)) (Int.toNat ci) x)
 (Int.toNat (wl (Int.toNat ci + al) - gl (Int.toNat ci + al) + (1 : Int))) (0 : Int))) +
 (1 : Int)))
 j))))) !=
 (10 : Int))
 (Kret (PV.tf true) ([[(0, false,
 Blk.cols ml
 [Col.str tl, Col.int IntKind.i64 vl, Col.int IntKind.i64 gl,
 Col.int IntKind.i64 wl])]]) (13))
 (Kret (PV.tf false) ([[(0, false,
 Blk.cols ml
 [Col.str tl, Col.int IntKind.i64 vl, Col.int IntKind.i64 gl,
 Col.int IntKind.i64 wl])]]) (13)))
 (Kret (PV.tf false) ([[(0, false,
 Blk.cols ml
 [Col.str tl, Col.int IntKind.i64 vl, Col.int IntKind.i64 gl,
 Col.int IntKind.i64 wl])]]) (13)))
 (False))
 (False))
 (False))
 (False))
 (False)))))
 (False))
 (False))
 (False))
 (test (true)
 (test (true)
 (Kret (PV.tf true) ([[(0, false,
 Blk.cols ml
 [Col.str tl, Col.int IntKind.i64 vl, Col.int IntKind.i64 gl,
 Col.int IntKind.i64 wl])]]) (4))
 (Kret (PV.tf false) ([[(0, false,
 Blk.cols ml
 [Col.str tl, Col.int IntKind.i64 vl, Col.int IntKind.i64 gl,
 Col.int IntKind.i64 wl])]]) (4)))
 (False)))
 (False))
 (test (true)
 (test (true)
 (Kret (PV.tf true) ([[(0, false,
 Blk.cols ml
 [Col.str tl, Col.int IntKind.i64 vl, Col.int IntKind.i64 gl,
 Col.int IntKind.i64 wl])]]) (3))
 (Kret (PV.tf false) ([[(0, false,
 Blk.cols ml
 [Col.str tl, Col.int IntKind.i64 vl, Col.int IntKind.i64 gl,
 Col.int IntKind.i64 wl])]]) (3)))
 (False)))
 (False)
set_option maxRecDepth 100000 in
theorem te10 (test : Bool → Prop → Prop → Prop) (Kst : KS) (Kret : KR) (al nl ml : Nat) (tl : Nat → ByteArray) (vl : Nat → Int) (gl : Nat → Int) (wl : Nat → Int) (ci : Int) : run test Try.env true (xL10 test) true 400 ⟨10, [.cd (mkFn Try.f10).body], argT 0 [.loose ⟨0, 4, al, 0⟩ nl, .int .i64 ci], [[], [(0, (false, .cols ml [.str tl, .int .i64 vl, .int .i64 gl, .int .i64 wl]))]], 1⟩ (proj 1 [] Kst Kret) =
  Te10 test Kst Kret al nl ml tl vl gl wl ci := by kernel_rfl
attribute [local irreducible] Int.subNatNat in
set_option maxRecDepth 100000 in
theorem be10 (al nl ml : Nat) (tl : Nat → ByteArray) (vl : Nat → Int) (gl : Nat → Int) (wl : Nat → Int) (ci : Int) (Kst : KS) (Kret : KR) (x : St10 ⊕ Rt10) (hS : HS 1 400 ((I10 al nl ml tl vl gl wl ci)) Kst x) (hR : HR 1 400 ((V10 al nl ml tl vl gl wl ci)) (fun r => [newL (1 + 1) ((N10 al nl ml tl vl gl wl ci) r) ++ [(0, (false, .cols ml [.str tl, .int .i64 vl, .int .i64 gl, .int .i64 wl]))]]) Kret x) (h : (bif (decide (al + nl ≤ ml))
 then (bif (S.fewT nl fun (j : Nat) => tl (j + al))
 then (bif (decide (al + nl ≤ ml ∧ nl ≤ 1000000))
 then (bif (decide (0 + nl ≤ nl))
 then (bif (Prod.fst
 (S.slkS
 (S.tskS nl (fun (j : Nat) => tl (j + al)) (fun (j : Nat) => vl (j + al)) (fun (j : Nat) => gl (j + al))
 fun (j : Nat) => wl (j + al))
 nl ci (S.misT nl (fun (j : Nat) => vl (j + al)) (fun (j : Nat) => gl (j + al)) fun (j : Nat) => wl (j + al))
 (S.firF
 (fun (x : Int) =>
 S.slP nl (fun (j : Nat) => vl (j + al)) (fun (j : Nat) => gl (j + al)) (fun (j : Nat) => wl (j + al))
 (Int.toNat ci) x)
 (Int.toNat (wl (Int.toNat ci + al) - gl (Int.toNat ci + al) + (1 : Int))) (0 : Int))) !=
 Prod.fst
 (S.slkS
 (S.tskS nl (fun (j : Nat) => tl (j + al)) (fun (j : Nat) => vl (j + al)) (fun (j : Nat) => gl (j + al))
 fun (j : Nat) => wl (j + al))
 nl ci (S.misT nl (fun (j : Nat) => vl (j + al)) (fun (j : Nat) => gl (j + al)) fun (j : Nat) => wl (j + al))
 (S.firF
 (fun (x : Int) =>
 S.slP nl (fun (j : Nat) => vl (j + al)) (fun (j : Nat) => gl (j + al)) (fun (j : Nat) => wl (j + al))
 (Int.toNat ci) x)
 (Int.toNat (wl (Int.toNat ci + al) - gl (Int.toNat ci + al) + (1 : Int))) (0 : Int))))
 then (bif (Prod.fst
 (S.slkS
 (S.tskS nl (fun (j : Nat) => tl (j + al)) (fun (j : Nat) => vl (j + al)) (fun (j : Nat) => gl (j + al))
 fun (j : Nat) => wl (j + al))
 nl ci (S.misT nl (fun (j : Nat) => vl (j + al)) (fun (j : Nat) => gl (j + al)) fun (j : Nat) => wl (j + al))
 (S.firF
 (fun (x : Int) =>
 S.slP nl (fun (j : Nat) => vl (j + al)) (fun (j : Nat) => gl (j + al)) (fun (j : Nat) => wl (j + al))
 (Int.toNat ci) x)
 (Int.toNat (wl (Int.toNat ci + al) - gl (Int.toNat ci + al) + (1 : Int))) (0 : Int))) ==
 Prod.fst
 (S.slkS
 (S.tskS nl (fun (j : Nat) => tl (j + al)) (fun (j : Nat) => vl (j + al)) (fun (j : Nat) => gl (j + al))
 fun (j : Nat) => wl (j + al))
 nl ci (S.misT nl (fun (j : Nat) => vl (j + al)) (fun (j : Nat) => gl (j + al)) fun (j : Nat) => wl (j + al))
 (S.firF
 (fun (x : Int) =>
 S.slP nl (fun (j : Nat) => vl (j + al)) (fun (j : Nat) => gl (j + al)) (fun (j : Nat) => wl (j + al))
 (Int.toNat ci) x)
 (Int.toNat (wl (Int.toNat ci + al) - gl (Int.toNat ci + al) + (1 : Int))) (0 : Int))))
 then (bif (Prod.snd
 (S.slkS
 (S.tskS nl (fun (j : Nat) => tl (j + al)) (fun (j : Nat) => vl (j + al)) (fun (j : Nat) => gl (j + al))
 fun (j : Nat) => wl (j + al))
 nl ci (S.misT nl (fun (j : Nat) => vl (j + al)) (fun (j : Nat) => gl (j + al)) fun (j : Nat) => wl (j + al))
 (S.firF
 (fun (x : Int) =>
 S.slP nl (fun (j : Nat) => vl (j + al)) (fun (j : Nat) => gl (j + al)) (fun (j : Nat) => wl (j + al))
 (Int.toNat ci) x)
 (Int.toNat (wl (Int.toNat ci + al) - gl (Int.toNat ci + al) + (1 : Int))) (0 : Int))) ==
 Prod.snd
 (S.slkS
 (S.tskS nl (fun (j : Nat) => tl (j + al)) (fun (j : Nat) => vl (j + al)) (fun (j : Nat) => gl (j + al))
 fun (j : Nat) => wl (j + al))
 nl ci (S.misT nl (fun (j : Nat) => vl (j + al)) (fun (j : Nat) => gl (j + al)) fun (j : Nat) => wl (j + al))
 (S.firF
 (fun (x : Int) =>
 S.slP nl (fun (j : Nat) => vl (j + al)) (fun (j : Nat) => gl (j + al)) (fun (j : Nat) => wl (j + al))
 (Int.toNat ci) x)
 (Int.toNat (wl (Int.toNat ci + al) - gl (Int.toNat ci + al) + (1 : Int))) (0 : Int))))
 then (some (.inr (true)))
 else (some (.inr (false))))
 else (some (.inr (false))))
 else (bif (Prod.snd
 (S.slkS
 (S.tskS nl (fun (j : Nat) => tl (j + al)) (fun (j : Nat) => vl (j + al)) (fun (j : Nat) => gl (j + al))
 fun (j : Nat) => wl (j + al))
 nl ci (S.misT nl (fun (j : Nat) => vl (j + al)) (fun (j : Nat) => gl (j + al)) fun (j : Nat) => wl (j + al))
 (S.firF
 (fun (x : Int) =>
 S.slP nl (fun (j : Nat) => vl (j + al)) (fun (j : Nat) => gl (j + al)) (fun (j : Nat) => wl (j + al))
 (Int.toNat ci) x)
 (Int.toNat (wl (Int.toNat ci + al) - gl (Int.toNat ci + al) + (1 : Int))) (0 : Int))) !=
 Prod.snd
 (S.slkS
 (S.tskS nl (fun (j : Nat) => tl (j + al)) (fun (j : Nat) => vl (j + al)) (fun (j : Nat) => gl (j + al))
 fun (j : Nat) => wl (j + al))
 nl ci (S.misT nl (fun (j : Nat) => vl (j + al)) (fun (j : Nat) => gl (j + al)) fun (j : Nat) => wl (j + al))
 (S.firF
 (fun (x : Int) =>
 S.slP nl (fun (j : Nat) => vl (j + al)) (fun (j : Nat) => gl (j + al)) (fun (j : Nat) => wl (j + al))
 (Int.toNat ci) x)
 (Int.toNat (wl (Int.toNat ci + al) - gl (Int.toNat ci + al) + (1 : Int))) (0 : Int))))
 then (bif (Prod.fst
 (S.slkS
 (S.tskS nl (fun (j : Nat) => tl (j + al)) (fun (j : Nat) => vl (j + al)) (fun (j : Nat) => gl (j + al))
 fun (j : Nat) => wl (j + al))
 nl ci (S.misT nl (fun (j : Nat) => vl (j + al)) (fun (j : Nat) => gl (j + al)) fun (j : Nat) => wl (j + al))
 (S.firF
 (fun (x : Int) =>
 S.slP nl (fun (j : Nat) => vl (j + al)) (fun (j : Nat) => gl (j + al)) (fun (j : Nat) => wl (j + al))
 (Int.toNat ci) x)
 (Int.toNat (wl (Int.toNat ci + al) - gl (Int.toNat ci + al) + (1 : Int))) (0 : Int))) ==
 Prod.fst
 (S.slkS
 (S.tskS nl (fun (j : Nat) => tl (j + al)) (fun (j : Nat) => vl (j + al)) (fun (j : Nat) => gl (j + al))
 fun (j : Nat) => wl (j + al))
 nl ci (S.misT nl (fun (j : Nat) => vl (j + al)) (fun (j : Nat) => gl (j + al)) fun (j : Nat) => wl (j + al))
 (S.firF
 (fun (x : Int) =>
 S.slP nl (fun (j : Nat) => vl (j + al)) (fun (j : Nat) => gl (j + al)) (fun (j : Nat) => wl (j + al))
 (Int.toNat ci) x)
 (Int.toNat (wl (Int.toNat ci + al) - gl (Int.toNat ci + al) + (1 : Int))) (0 : Int))))
 then (bif (Prod.snd
 (S.slkS
 (S.tskS nl (fun (j : Nat) => tl (j + al)) (fun (j : Nat) => vl (j + al)) (fun (j : Nat) => gl (j + al))
 fun (j : Nat) => wl (j + al))
 nl ci (S.misT nl (fun (j : Nat) => vl (j + al)) (fun (j : Nat) => gl (j + al)) fun (j : Nat) => wl (j + al))
 (S.firF
 (fun (x : Int) =>
 S.slP nl (fun (j : Nat) => vl (j + al)) (fun (j : Nat) => gl (j + al)) (fun (j : Nat) => wl (j + al))
 (Int.toNat ci) x)
 (Int.toNat (wl (Int.toNat ci + al) - gl (Int.toNat ci + al) + (1 : Int))) (0 : Int))) ==
 Prod.snd
 (S.slkS
 (S.tskS nl (fun (j : Nat) => tl (j + al)) (fun (j : Nat) => vl (j + al)) (fun (j : Nat) => gl (j + al))
 fun (j : Nat) => wl (j + al))
 nl ci (S.misT nl (fun (j : Nat) => vl (j + al)) (fun (j : Nat) => gl (j + al)) fun (j : Nat) => wl (j + al))
 (S.firF
 (fun (x : Int) =>
 S.slP nl (fun (j : Nat) => vl (j + al)) (fun (j : Nat) => gl (j + al)) (fun (j : Nat) => wl (j + al))
 (Int.toNat ci) x)
 (Int.toNat (wl (Int.toNat ci + al) - gl (Int.toNat ci + al) + (1 : Int))) (0 : Int))))
 then (some (.inr (true)))
 else (some (.inr (false))))
 else (some (.inr (false))))
 else (bif (Prod.snd
 (S.slkS
 (S.tskS nl (fun (j : Nat) => tl (j + al)) (fun (j : Nat) => vl (j + al)) (fun (j : Nat) => gl (j + al))
 fun (j : Nat) => wl (j + al))
 nl ci (S.misT nl (fun (j : Nat) => vl (j + al)) (fun (j : Nat) => gl (j + al)) fun (j : Nat) => wl (j + al))
 (S.firF
 (fun (x : Int) =>
 S.slP nl (fun (j : Nat) => vl (j + al)) (fun (j : Nat) => gl (j + al)) (fun (j : Nat) => wl (j + al))
 (Int.toNat ci) x)
 (Int.toNat (wl (Int.toNat ci + al) - gl (Int.toNat ci + al) + (1 : Int))) (0 : Int))) !=
 (0 : Int))
 then (bif (Prod.fst
 (S.slkS
 (S.tskS nl (fun (j : Nat) => tl (j + al)) (fun (j : Nat) => vl (j + al)) (fun (j : Nat) => gl (j + al))
 fun (j : Nat) => wl (j + al))
 nl ci (S.misT nl (fun (j : Nat) => vl (j + al)) (fun (j : Nat) => gl (j + al)) fun (j : Nat) => wl (j + al))
 (S.firF
 (fun (x : Int) =>
 S.slP nl (fun (j : Nat) => vl (j + al)) (fun (j : Nat) => gl (j + al)) (fun (j : Nat) => wl (j + al))
 (Int.toNat ci) x)
 (Int.toNat (wl (Int.toNat ci + al) - gl (Int.toNat ci + al) + (1 : Int))) (0 : Int))) ==
 Prod.fst
 (S.slkS
 (S.tskS nl (fun (j : Nat) => tl (j + al)) (fun (j : Nat) => vl (j + al)) (fun (j : Nat) => gl (j + al))
 fun (j : Nat) => wl (j + al))
 nl ci (S.misT nl (fun (j : Nat) => vl (j + al)) (fun (j : Nat) => gl (j + al)) fun (j : Nat) => wl (j + al))
 (S.firF
 (fun (x : Int) =>
 S.slP nl (fun (j : Nat) => vl (j + al)) (fun (j : Nat) => gl (j + al)) (fun (j : Nat) => wl (j + al))
 (Int.toNat ci) x)
 (Int.toNat (wl (Int.toNat ci + al) - gl (Int.toNat ci + al) + (1 : Int))) (0 : Int))))
 then (bif (Prod.snd
 (S.slkS
 (S.tskS nl (fun (j : Nat) => tl (j + al)) (fun (j : Nat) => vl (j + al)) (fun (j : Nat) => gl (j + al))
 fun (j : Nat) => wl (j + al))
 nl ci (S.misT nl (fun (j : Nat) => vl (j + al)) (fun (j : Nat) => gl (j + al)) fun (j : Nat) => wl (j + al))
 (S.firF
 (fun (x : Int) =>
 S.slP nl (fun (j : Nat) => vl (j + al)) (fun (j : Nat) => gl (j + al)) (fun (j : Nat) => wl (j + al))
 (Int.toNat ci) x)
 (Int.toNat (wl (Int.toNat ci + al) - gl (Int.toNat ci + al) + (1 : Int))) (0 : Int))) ==
 Prod.snd
 (S.slkS
 (S.tskS nl (fun (j : Nat) => tl (j + al)) (fun (j : Nat) => vl (j + al)) (fun (j : Nat) => gl (j + al))
 fun (j : Nat) => wl (j + al))
 nl ci (S.misT nl (fun (j : Nat) => vl (j + al)) (fun (j : Nat) => gl (j + al)) fun (j : Nat) => wl (j + al))
 (S.firF
 (fun (x : Int) =>
 S.slP nl (fun (j : Nat) => vl (j + al)) (fun (j : Nat) => gl (j + al)) (fun (j : Nat) => wl (j + al))
 (Int.toNat ci) x)
 (Int.toNat (wl (Int.toNat ci + al) - gl (Int.toNat ci + al) + (1 : Int))) (0 : Int))))
 then (some (.inr (true)))
 else (some (.inr (false))))
 else (some (.inr (false))))
 else (bif (decide
 (al + nl ≤ ml ∧
 ((0 : Int) ≤ ci ∧ ci < (↑nl : Int)) ∧
 (S.okT nl (fun (j : Nat) => vl (j + al)) (fun (j : Nat) => gl (j + al)) fun (j : Nat) => wl (j + al)) =
 true ∧
 (0 : Int) ≤
 Prod.fst
 (S.slkS
 (S.tskS nl (fun (j : Nat) => tl (j + al)) (fun (j : Nat) => vl (j + al))
 (fun (j : Nat) => gl (j + al)) fun (j : Nat) => wl (j + al))
 nl ci
 (S.misT nl (fun (j : Nat) => vl (j + al)) (fun (j : Nat) => gl (j + al)) fun (j : Nat) =>
 wl (j + al))
 (S.firF
 (fun (x : Int) =>
 S.slP nl (fun (j : Nat) => vl (j + al)) (fun (j : Nat) => gl (j + al))
 (fun (j : Nat) => wl (j + al)) (Int.toNat ci) x)
 (Int.toNat (wl (Int.toNat ci + al) - gl (Int.toNat ci + al) + (1 : Int))) (0 : Int))) ∧
 Prod.fst
 (S.slkS
 (S.tskS nl (fun (j : Nat) => tl (j + al)) (fun (j : Nat) => vl (j + al))
 (fun (j : Nat) => gl (j + al)) fun (j : Nat) => wl (j + al))
 nl ci
 (S.misT nl (fun (j : Nat) => vl (j + al)) (fun (j : Nat) => gl (j + al)) fun (j : Nat) =>
 wl (j + al))
 (S.firF
 (fun (x : Int) =>
 S.slP nl (fun (j : Nat) => vl (j + al)) (fun (j : Nat) => gl (j + al))
 (fun (j : Nat) => wl (j + al)) (Int.toNat ci) x)
 (Int.toNat (wl (Int.toNat ci + al) - gl (Int.toNat ci + al) + (1 : Int))) (0 : Int))) ≤
 (10000000 : Int)))
 then (bif (decide
 (0 +
 List.length
 (S.withL nl (fun (j : Nat) => tl (j + al)) (fun (j : Nat) => vl (j + al)) (fun (j : Nat) => gl (j + al))
 (fun (j : Nat) => wl (j + al)) (Int.toNat ci)
 (Prod.fst
 (S.slkS
 (S.tskS nl (fun (j : Nat) => tl (j + al)) (fun (j : Nat) => vl (j + al))
 (fun (j : Nat) => gl (j + al)) fun (j : Nat) => wl (j + al))
 nl ci
 (S.misT nl (fun (j : Nat) => vl (j + al)) (fun (j : Nat) => gl (j + al)) fun (j : Nat) =>
 wl (j + al))
 (S.firF
 (fun (x : Int) =>
 S.slP nl (fun (j : Nat) => vl (j + al)) (fun (j : Nat) => gl (j + al))
 (fun (j : Nat) => wl (j + al)) (Int.toNat ci) x)
 (Int.toNat (wl (Int.toNat ci + al) - gl (Int.toNat ci + al) + (1 : Int))) (0 : Int))))) ≤
 List.length
 (S.withL nl (fun (j : Nat) => tl (j + al)) (fun (j : Nat) => vl (j + al)) (fun (j : Nat) => gl (j + al))
 (fun (j : Nat) => wl (j + al)) (Int.toNat ci)
 (Prod.fst
 (S.slkS
 (S.tskS nl (fun (j : Nat) => tl (j + al)) (fun (j : Nat) => vl (j + al))
 (fun (j : Nat) => gl (j + al)) fun (j : Nat) => wl (j + al))
 nl ci
 (S.misT nl (fun (j : Nat) => vl (j + al)) (fun (j : Nat) => gl (j + al)) fun (j : Nat) => wl (j + al))
 (S.firF
 (fun (x : Int) =>
 S.slP nl (fun (j : Nat) => vl (j + al)) (fun (j : Nat) => gl (j + al))
 (fun (j : Nat) => wl (j + al)) (Int.toNat ci) x)
 (Int.toNat (wl (Int.toNat ci + al) - gl (Int.toNat ci + al) + (1 : Int))) (0 : Int)))))))
 then (bif (lim IntKind.i64
 (Prod.fst
 (S.slkS
 (S.tskS nl (fun (j : Nat) => tl (j + al)) (fun (j : Nat) => vl (j + al)) (fun (j : Nat) => gl (j + al))
 fun (j : Nat) => wl (j + al))
 nl ci
 (S.misT nl (fun (j : Nat) => vl (j + al)) (fun (j : Nat) => gl (j + al)) fun (j : Nat) => wl (j + al))
 (S.firF
 (fun (x : Int) =>
 S.slP nl (fun (j : Nat) => vl (j + al)) (fun (j : Nat) => gl (j + al)) (fun (j : Nat) => wl (j + al))
 (Int.toNat ci) x)
 (Int.toNat (wl (Int.toNat ci + al) - gl (Int.toNat ci + al) + (1 : Int))) (0 : Int))) +
 (1 : Int)))
 then (bif (decide
 (al + nl ≤ ml ∧
 ((0 : Int) ≤ ci ∧ ci < (↑nl : Int)) ∧
 (S.okT nl (fun (j : Nat) => vl (j + al)) (fun (j : Nat) => gl (j + al)) fun (j : Nat) => wl (j + al)) =
 true ∧
 (0 : Int) ≤
 Prod.fst
 (S.slkS
 (S.tskS nl (fun (j : Nat) => tl (j + al)) (fun (j : Nat) => vl (j + al))
 (fun (j : Nat) => gl (j + al)) fun (j : Nat) => wl (j + al))
 nl ci
 (S.misT nl (fun (j : Nat) => vl (j + al)) (fun (j : Nat) => gl (j + al)) fun (j : Nat) =>
 wl (j + al))
 (S.firF
 (fun (x : Int) =>
 S.slP nl (fun (j : Nat) => vl (j + al)) (fun (j : Nat) => gl (j + al))
 (fun (j : Nat) => wl (j + al)) (Int.toNat ci) x)
 (Int.toNat (wl (Int.toNat ci + al) - gl (Int.toNat ci + al) + (1 : Int))) (0 : Int))) +
 (1 : Int) ∧
 Prod.fst
 (S.slkS
 (S.tskS nl (fun (j : Nat) => tl (j + al)) (fun (j : Nat) => vl (j + al))
 (fun (j : Nat) => gl (j + al)) fun (j : Nat) => wl (j + al))
 nl ci
 (S.misT nl (fun (j : Nat) => vl (j + al)) (fun (j : Nat) => gl (j + al)) fun (j : Nat) =>
 wl (j + al))
 (S.firF
 (fun (x : Int) =>
 S.slP nl (fun (j : Nat) => vl (j + al)) (fun (j : Nat) => gl (j + al))
 (fun (j : Nat) => wl (j + al)) (Int.toNat ci) x)
 (Int.toNat (wl (Int.toNat ci + al) - gl (Int.toNat ci + al) + (1 : Int))) (0 : Int))) +
 (1 : Int) ≤
 (10000000 : Int)))
 then (bif (decide
 (0 +
 List.length
 (S.withL nl (fun (j : Nat) => tl (j + al)) (fun (j : Nat) => vl (j + al)) (fun (j : Nat) => gl (j + al))
 (fun (j : Nat) => wl (j + al)) (Int.toNat ci)
 (Prod.fst
 (S.slkS
 (S.tskS nl (fun (j : Nat) => tl (j + al)) (fun (j : Nat) => vl (j + al))
 (fun (j : Nat) => gl (j + al)) fun (j : Nat) => wl (j + al))
 nl ci
 (S.misT nl (fun (j : Nat) => vl (j + al)) (fun (j : Nat) => gl (j + al)) fun (j : Nat) =>
 wl (j + al))
 (S.firF
 (fun (x : Int) =>
 S.slP nl (fun (j : Nat) => vl (j + al)) (fun (j : Nat) => gl (j + al))
 (fun (j : Nat) => wl (j + al)) (Int.toNat ci) x)
 (Int.toNat (wl (Int.toNat ci + al) - gl (Int.toNat ci + al) + (1 : Int))) (0 : Int))) +
 (1 : Int))) ≤
 List.length
 (S.withL nl (fun (j : Nat) => tl (j + al)) (fun (j : Nat) => vl (j + al)) (fun (j : Nat) => gl (j + al))
 (fun (j : Nat) => wl (j + al)) (Int.toNat ci)
 (Prod.fst
 (S.slkS
 (S.tskS nl (fun (j : Nat) => tl (j + al)) (fun (j : Nat) => vl (j + al))
 (fun (j : Nat) => gl (j + al)) fun (j : Nat) => wl (j + al))
 nl ci
 (S.misT nl (fun (j : Nat) => vl (j + al)) (fun (j : Nat) => gl (j + al)) fun (j : Nat) =>
 wl (j + al))
 (S.firF
 (fun (x : Int) =>
 S.slP nl (fun (j : Nat) => vl (j + al)) (fun (j : Nat) => gl (j + al))
 (fun (j : Nat) => wl (j + al)) (Int.toNat ci) x)
 (Int.toNat (wl (Int.toNat ci + al) - gl (Int.toNat ci + al) + (1 : Int))) (0 : Int))) +
 (1 : Int)))))
 then (bif (Prod.snd
 (S.misS
 (S.tskS
 (List.length
 (S.withL nl (fun (j : Nat) => tl (j + al)) (fun (j : Nat) => vl (j + al)) (fun (j : Nat) => gl (j + al))
 (fun (j : Nat) => wl (j + al)) (Int.toNat ci)
 (Prod.fst
 (S.slkS
 (S.tskS nl (fun (j : Nat) => tl (j + al)) (fun (j : Nat) => vl (j + al))
 (fun (j : Nat) => gl (j + al)) fun (j : Nat) => wl (j + al))
 nl ci
 (S.misT nl (fun (j : Nat) => vl (j + al)) (fun (j : Nat) => gl (j + al)) fun (j : Nat) =>
 wl (j + al))
 (S.firF
 (fun (x : Int) =>
 S.slP nl (fun (j : Nat) => vl (j + al)) (fun (j : Nat) => gl (j + al))
 (fun (j : Nat) => wl (j + al)) (Int.toNat ci) x)
 (Int.toNat (wl (Int.toNat ci + al) - gl (Int.toNat ci + al) + (1 : Int))) (0 : Int))))))
 (fun (j : Nat) =>
 Prod.fst
 (S.at'
 (S.withL nl (fun (j : Nat) => tl (j + al)) (fun (j : Nat) => vl (j + al))
 (fun (j : Nat) => gl (j + al)) (fun (j : Nat) => wl (j + al)) (Int.toNat ci)
 (Prod.fst
 (S.slkS
 (S.tskS nl (fun (j : Nat) => tl (j + al)) (fun (j : Nat) => vl (j + al))
 (fun (j : Nat) => gl (j + al)) fun (j : Nat) => wl (j + al))
 nl ci
 (S.misT nl (fun (j : Nat) => vl (j + al)) (fun (j : Nat) => gl (j + al)) fun (j : Nat) =>
 wl (j + al))
 (S.firF
 (fun (x : Int) =>
 S.slP nl (fun (j : Nat) => vl (j + al)) (fun (j : Nat) => gl (j + al))
 (fun (j : Nat) => wl (j + al)) (Int.toNat ci) x)
 (Int.toNat (wl (Int.toNat ci + al) - gl (Int.toNat ci + al) + (1 : Int))) (0 : Int)))))
 j))
 (fun (j : Nat) =>
 Prod.fst
 (Prod.snd
 (S.at'
 (S.withL nl (fun (j : Nat) => tl (j + al)) (fun (j : Nat) => vl (j + al))
 (fun (j : Nat) => gl (j + al)) (fun (j : Nat) => wl (j + al)) (Int.toNat ci)
 (Prod.fst
 (S.slkS
 (S.tskS nl (fun (j : Nat) => tl (j + al)) (fun (j : Nat) => vl (j + al))
 (fun (j : Nat) => gl (j + al)) fun (j : Nat) => wl (j + al))
 nl ci
 (S.misT nl (fun (j : Nat) => vl (j + al)) (fun (j : Nat) => gl (j + al)) fun (j : Nat) =>
 wl (j + al))
 (S.firF
 (fun (x : Int) =>
 S.slP nl (fun (j : Nat) => vl (j + al)) (fun (j : Nat) => gl (j + al))
 (fun (j : Nat) => wl (j + al)) (Int.toNat ci) x)
 (Int.toNat (wl (Int.toNat ci + al) - gl (Int.toNat ci + al) + (1 : Int))) (0 : Int)))))
 j)))
 (fun (j : Nat) =>
 Prod.fst
 (Prod.snd
 (Prod.snd
 (S.at'
 (S.withL nl (fun (j : Nat) => tl (j + al)) (fun (j : Nat) => vl (j + al))
 (fun (j : Nat) => gl (j + al)) (fun (j : Nat) => wl (j + al)) (Int.toNat ci)
 (Prod.fst
 (S.slkS
 (S.tskS nl (fun (j : Nat) => tl (j + al)) (fun (j : Nat) => vl (j + al))
 (fun (j : Nat) => gl (j + al)) fun (j : Nat) => wl (j + al))
 nl ci
 (S.misT nl (fun (j : Nat) => vl (j + al)) (fun (j : Nat) => gl (j + al)) fun (j : Nat) =>
 wl (j + al))
 (S.firF
 (fun (x : Int) =>
 S.slP nl (fun (j : Nat) => vl (j + al)) (fun (j : Nat) => gl (j + al))
 (fun (j : Nat) => wl (j + al)) (Int.toNat ci) x)
 (Int.toNat (wl (Int.toNat ci + al) - gl (Int.toNat ci + al) + (1 : Int))) (0 : Int)))))
 j))))
 fun (j : Nat) =>
 Prod.snd
 (Prod.snd
 (Prod.snd
 (S.at'
 (S.withL nl (fun (j : Nat) => tl (j + al)) (fun (j : Nat) => vl (j + al))
 (fun (j : Nat) => gl (j + al)) (fun (j : Nat) => wl (j + al)) (Int.toNat ci)
 (Prod.fst
 (S.slkS
 (S.tskS nl (fun (j : Nat) => tl (j + al)) (fun (j : Nat) => vl (j + al))
 (fun (j : Nat) => gl (j + al)) fun (j : Nat) => wl (j + al))
 nl ci
 (S.misT nl (fun (j : Nat) => vl (j + al)) (fun (j : Nat) => gl (j + al)) fun (j : Nat) =>
 wl (j + al))
 (S.firF
 (fun (x : Int) =>
 S.slP nl (fun (j : Nat) => vl (j + al)) (fun (j : Nat) => gl (j + al))
 (fun (j : Nat) => wl (j + al)) (Int.toNat ci) x)
 (Int.toNat (wl (Int.toNat ci + al) - gl (Int.toNat ci + al) + (1 : Int))) (0 : Int)))))
 j))))
 (S.misT
 (List.length
 (S.withL nl (fun (j : Nat) => tl (j + al)) (fun (j : Nat) => vl (j + al)) (fun (j : Nat) => gl (j + al))
 (fun (j : Nat) => wl (j + al)) (Int.toNat ci)
 (Prod.fst
 (S.slkS
 (S.tskS nl (fun (j : Nat) => tl (j + al)) (fun (j : Nat) => vl (j + al))
 (fun (j : Nat) => gl (j + al)) fun (j : Nat) => wl (j + al))
 nl ci
 (S.misT nl (fun (j : Nat) => vl (j + al)) (fun (j : Nat) => gl (j + al)) fun (j : Nat) =>
 wl (j + al))
 (S.firF
 (fun (x : Int) =>
 S.slP nl (fun (j : Nat) => vl (j + al)) (fun (j : Nat) => gl (j + al))
 (fun (j : Nat) => wl (j + al)) (Int.toNat ci) x)
 (Int.toNat (wl (Int.toNat ci + al) - gl (Int.toNat ci + al) + (1 : Int))) (0 : Int))))))
 (fun (j : Nat) =>
 Prod.fst
 (Prod.snd
 (S.at'
 (S.withL nl (fun (j : Nat) => tl (j + al)) (fun (j : Nat) => vl (j + al))
 (fun (j : Nat) => gl (j + al)) (fun (j : Nat) => wl (j + al)) (Int.toNat ci)
 (Prod.fst
 (S.slkS
 (S.tskS nl (fun (j : Nat) => tl (j + al)) (fun (j : Nat) => vl (j + al))
 (fun (j : Nat) => gl (j + al)) fun (j : Nat) => wl (j + al))
 nl ci
 (S.misT nl (fun (j : Nat) => vl (j + al)) (fun (j : Nat) => gl (j + al)) fun (j : Nat) =>
 wl (j + al))
 (S.firF
 (fun (x : Int) =>
 S.slP nl (fun (j : Nat) => vl (j + al)) (fun (j : Nat) => gl (j + al))
 (fun (j : Nat) => wl (j + al)) (Int.toNat ci) x)
 (Int.toNat (wl (Int.toNat ci + al) - gl (Int.toNat ci + al) + (1 : Int))) (0 : Int)))))
 j)))
 (fun (j : Nat) =>
 Prod.fst
 (Prod.snd
 (Prod.snd
 (S.at'
 (S.withL nl (fun (j : Nat) => tl (j + al)) (fun (j : Nat) => vl (j + al))
 (fun (j : Nat) => gl (j + al)) (fun (j : Nat) => wl (j + al)) (Int.toNat ci)
 (Prod.fst
 (S.slkS
 (S.tskS nl (fun (j : Nat) => tl (j + al)) (fun (j : Nat) => vl (j + al))
 (fun (j : Nat) => gl (j + al)) fun (j : Nat) => wl (j + al))
 nl ci
 (S.misT nl (fun (j : Nat) => vl (j + al)) (fun (j : Nat) => gl (j + al)) fun (j : Nat) =>
 wl (j + al))
 (S.firF
 (fun (x : Int) =>
 S.slP nl (fun (j : Nat) => vl (j + al)) (fun (j : Nat) => gl (j + al))
 (fun (j : Nat) => wl (j + al)) (Int.toNat ci) x)
 (Int.toNat (wl (Int.toNat ci + al) - gl (Int.toNat ci + al) + (1 : Int))) (0 : Int)))))
 j))))
 fun (j : Nat) =>
 Prod.snd
 (Prod.snd
 (Prod.snd
 (S.at'
 (S.withL nl (fun (j : Nat) => tl (j + al)) (fun (j : Nat) => vl (j + al))
 (fun (j : Nat) => gl (j + al)) (fun (j : Nat) => wl (j + al)) (Int.toNat ci)
 (Prod.fst
 (S.slkS
 (S.tskS nl (fun (j : Nat) => tl (j + al)) (fun (j : Nat) => vl (j + al))
 (fun (j : Nat) => gl (j + al)) fun (j : Nat) => wl (j + al))
 nl ci
 (S.misT nl (fun (j : Nat) => vl (j + al)) (fun (j : Nat) => gl (j + al)) fun (j : Nat) =>
 wl (j + al))
 (S.firF
 (fun (x : Int) =>
 S.slP nl (fun (j : Nat) => vl (j + al)) (fun (j : Nat) => gl (j + al))
 (fun (j : Nat) => wl (j + al)) (Int.toNat ci) x)
 (Int.toNat (wl (Int.toNat ci + al) - gl (Int.toNat ci + al) + (1 : Int))) (0 : Int)))))
 j))))) ==
 (10 : Int))
 then (bif (Prod.snd
 (S.misS
 (S.tskS
 (List.length
 (S.withL nl (fun (j : Nat) => tl (j + al)) (fun (j : Nat) => vl (j + al)) (fun (j : Nat) => gl (j + al))
 (fun (j : Nat) => wl (j + al)) (Int.toNat ci)
 (Prod.fst
 (S.slkS
 (S.tskS nl (fun (j : Nat) => tl (j + al)) (fun (j : Nat) => vl (j + al))
 (fun (j : Nat) => gl (j + al)) fun (j : Nat) => wl (j + al))
 nl ci
 (S.misT nl (fun (j : Nat) => vl (j + al)) (fun (j : Nat) => gl (j + al)) fun (j : Nat) =>
 wl (j + al))
 (S.firF
 (fun (x : Int) =>
 S.slP nl (fun (j : Nat) => vl (j + al)) (fun (j : Nat) => gl (j + al))
 (fun (j : Nat) => wl (j + al)) (Int.toNat ci) x)
 (Int.toNat (wl (Int.toNat ci + al) - gl (Int.toNat ci + al) + (1 : Int))) (0 : Int))) +
 (1 : Int))))
 (fun (j : Nat) =>
 Prod.fst
 (S.at'
 (S.withL nl (fun (j : Nat) => tl (j + al)) (fun (j : Nat) => vl (j + al))
 (fun (j : Nat) => gl (j + al)) (fun (j : Nat) => wl (j + al)) (Int.toNat ci)
 (Prod.fst
 (S.slkS
 (S.tskS nl (fun (j : Nat) => tl (j + al)) (fun (j : Nat) => vl (j + al))
 (fun (j : Nat) => gl (j + al)) fun (j : Nat) => wl (j + al))
 nl ci
 (S.misT nl (fun (j : Nat) => vl (j + al)) (fun (j : Nat) => gl (j + al)) fun (j : Nat) =>
 wl (j + al))
 (S.firF
 (fun (x : Int) =>
 S.slP nl (fun (j : Nat) => vl (j + al)) (fun (j : Nat) => gl (j + al))
 (fun (j : Nat) => wl (j + al)) (Int.toNat ci) x)
 (Int.toNat (wl (Int.toNat ci + al) - gl (Int.toNat ci + al) + (1 : Int))) (0 : Int))) +
 (1 : Int)))
 j))
 (fun (j : Nat) =>
 Prod.fst
 (Prod.snd
 (S.at'
 (S.withL nl (fun (j : Nat) => tl (j + al)) (fun (j : Nat) => vl (j + al))
 (fun (j : Nat) => gl (j + al)) (fun (j : Nat) => wl (j + al)) (Int.toNat ci)
 (Prod.fst
 (S.slkS
 (S.tskS nl (fun (j : Nat) => tl (j + al)) (fun (j : Nat) => vl (j + al))
 (fun (j : Nat) => gl (j + al)) fun (j : Nat) => wl (j + al))
 nl ci
 (S.misT nl (fun (j : Nat) => vl (j + al)) (fun (j : Nat) => gl (j + al)) fun (j : Nat) =>
 wl (j + al))
 (S.firF
 (fun (x : Int) =>
 S.slP nl (fun (j : Nat) => vl (j + al)) (fun (j : Nat) => gl (j + al))
 (fun (j : Nat) => wl (j + al)) (Int.toNat ci) x)
 (Int.toNat (wl (Int.toNat ci + al) - gl (Int.toNat ci + al) + (1 : Int))) (0 : Int))) +
 (1 : Int)))
 j)))
 (fun (j : Nat) =>
 Prod.fst
 (Prod.snd
 (Prod.snd
 (S.at'
 (S.withL nl (fun (j : Nat) => tl (j + al)) (fun (j : Nat) => vl (j + al))
 (fun (j : Nat) => gl (j + al)) (fun (j : Nat) => wl (j + al)) (Int.toNat ci)
 (Prod.fst
 (S.slkS
 (S.tskS nl (fun (j : Nat) => tl (j + al)) (fun (j : Nat) => vl (j + al))
 (fun (j : Nat) => gl (j + al)) fun (j : Nat) => wl (j + al))
 nl ci
 (S.misT nl (fun (j : Nat) => vl (j + al)) (fun (j : Nat) => gl (j + al))
 fun (j : Nat) => wl (j + al))
 (S.firF
 (fun (x : Int) =>
 S.slP nl (fun (j : Nat) => vl (j + al)) (fun (j : Nat) => gl (j + al))
 (fun (j : Nat) => wl (j + al)) (Int.toNat ci) x)
 (Int.toNat (wl (Int.toNat ci + al) - gl (Int.toNat ci + al) + (1 : Int))) (0 : Int))) +
 (1 : Int)))
 j))))
 fun (j : Nat) =>
 Prod.snd
 (Prod.snd
 (Prod.snd
 (S.at'
 (S.withL nl (fun (j : Nat) => tl (j + al)) (fun (j : Nat) => vl (j + al))
 (fun (j : Nat) => gl (j + al)) (fun (j : Nat) => wl (j + al)) (Int.toNat ci)
 (Prod.fst
 (S.slkS
 (S.tskS nl (fun (j : Nat) => tl (j + al)) (fun (j : Nat) => vl (j + al))
 (fun (j : Nat) => gl (j + al)) fun (j : Nat) => wl (j + al))
 nl ci
 (S.misT nl (fun (j : Nat) => vl (j + al)) (fun (j : Nat) => gl (j + al)) fun (j : Nat) =>
 wl (j + al))
 (S.firF
 (fun (x : Int) =>
 S.slP nl (fun (j : Nat) => vl (j + al)) (fun (j : Nat) => gl (j + al))
 (fun (j : Nat) => wl (j + al)) (Int.toNat ci) x)
 (Int.toNat (wl (Int.toNat ci + al) - gl (Int.toNat ci + al) + (1 : Int))) (0 : Int))) +
 (1 : Int)))
 j))))
 (S.misT
 (List.length
 (S.withL nl (fun (j : Nat) => tl (j + al)) (fun (j : Nat) => vl (j + al)) (fun (j : Nat) => gl (j + al))
 (fun (j : Nat) => wl (j + al)) (Int.toNat ci)
 (Prod.fst
 (S.slkS
 (S.tskS nl (fun (j : Nat) => tl (j + al)) (fun (j : Nat) => vl (j + al))
 (fun (j : Nat) => gl (j + al)) fun (j : Nat) => wl (j + al))
 nl ci
 (S.misT nl (fun (j : Nat) => vl (j + al)) (fun (j : Nat) => gl (j + al)) fun (j : Nat) =>
 wl (j + al))
 (S.firF
 (fun (x : Int) =>
 S.slP nl (fun (j : Nat) => vl (j + al)) (fun (j : Nat) => gl (j + al))
 (fun (j : Nat) => wl (j + al)) (Int.toNat ci) x)
 (Int.toNat (wl (Int.toNat ci + al) - gl (Int.toNat ci + al) + (1 : Int))) (0 : Int))) +
 (1 : Int))))
 (fun (j : Nat) =>
 Prod.fst
 (Prod.snd
 (S.at'
 (S.withL nl (fun (j : Nat) => tl (j + al)) (fun (j : Nat) => vl (j + al))
 (fun (j : Nat) => gl (j + al)) (fun (j : Nat) => wl (j + al)) (Int.toNat ci)
 (Prod.fst
 (S.slkS
 (S.tskS nl (fun (j : Nat) => tl (j + al)) (fun (j : Nat) => vl (j + al))
 (fun (j : Nat) => gl (j + al)) fun (j : Nat) => wl (j + al))
 nl ci
 (S.misT nl (fun (j : Nat) => vl (j + al)) (fun (j : Nat) => gl (j + al)) fun (j : Nat) =>
 wl (j + al))
 (S.firF
 (fun (x : Int) =>
 S.slP nl (fun (j : Nat) => vl (j + al)) (fun (j : Nat) => gl (j + al))
 (fun (j : Nat) => wl (j + al)) (Int.toNat ci) x)
 (Int.toNat (wl (Int.toNat ci + al) - gl (Int.toNat ci + al) + (1 : Int))) (0 : Int))) +
 (1 : Int)))
 j)))
 (fun (j : Nat) =>
 Prod.fst
 (Prod.snd
 (Prod.snd
 (S.at'
 (S.withL nl (fun (j : Nat) => tl (j + al)) (fun (j : Nat) => vl (j + al))
 (fun (j : Nat) => gl (j + al)) (fun (j : Nat) => wl (j + al)) (Int.toNat ci)
 (Prod.fst
 (S.slkS
 (S.tskS nl (fun (j : Nat) => tl (j + al)) (fun (j : Nat) => vl (j + al))
 (fun (j : Nat) => gl (j + al)) fun (j : Nat) => wl (j + al))
 nl ci
 (S.misT nl (fun (j : Nat) => vl (j + al)) (fun (j : Nat) => gl (j + al))
 fun (j : Nat) => wl (j + al))
 (S.firF
 (fun (x : Int) =>
 S.slP nl (fun (j : Nat) => vl (j + al)) (fun (j : Nat) => gl (j + al))
 (fun (j : Nat) => wl (j + al)) (Int.toNat ci) x)
 (Int.toNat (wl (Int.toNat ci + al) - gl (Int.toNat ci + al) + (1 : Int))) (0 : Int))) +
 (1 : Int)))
 j))))
 fun (j : Nat) =>
 Prod.snd
 (Prod.snd
 (Prod.snd
 (S.at'
 (S.withL nl (fun (j : Nat) => tl (j + al)) (fun (j : Nat) => vl (j + al))
 (fun (j : Nat) => gl (j + al)) (fun (j : Nat) => wl (j + al)) (Int.toNat ci)
 (Prod.fst
 (S.slkS
 (S.tskS nl (fun (j : Nat) => tl (j + al)) (fun (j : Nat) => vl (j + al))
 (fun (j : Nat) => gl (j + al)) fun (j : Nat) => wl (j + al))
 nl ci
 (S.misT nl (fun (j : Nat) => vl (j + al)) (fun (j : Nat) => gl (j + al)) fun (j : Nat) =>
 wl (j + al))
 (S.firF
 (fun (x : Int) =>
 S.slP nl (fun (j : Nat) => vl (j + al)) (fun (j : Nat) => gl (j + al))
 (fun (j : Nat) => wl (j + al)) (Int.toNat ci) x)
 (Int.toNat (wl (Int.toNat ci + al) - gl (Int.toNat ci + al) + (1 : Int))) (0 : Int))) +
 (1 : Int)))
 j))))) !=
 (10 : Int))
 then (some (.inr (true)))
 else (some (.inr (false))))
 else (some (.inr (false))))
 else (none))
 else (none))
 else (none))
 else (none))
 else (none)))))
 else (none))
 else (none))
 else (some (.inr (true))))
 else (none) : Option (St10 ⊕ Rt10)) = some x) : Te10 cond Kst Kret al nl ml tl vl gl wl ci := by
  unfold Te10
  exact cond_yes rfl (cond_yes rfl (bif_split h
   (fun c0 h => bif_split h
   (fun c1 h => bif_split h
   (fun c2 h => bif_split h
   (fun c3 h => cond_yes c0 (bif_split h
   (fun c4 h => bif_split h
   (fun c5 h => bif_split h
   (fun c6 h => ret_at hR _ h (fun n => n) rfl rfl rfl (rn_bool_tf rfl) rfl (entl_bor (use_lo rfl) rfl rfl entl_nil))
   (fun c6 h => ret_at hR _ h (fun n => n) rfl rfl rfl (rn_bool_tf rfl) rfl (entl_bor (use_lo rfl) rfl rfl entl_nil)))
   (fun c5 h => ret_at hR _ h (fun n => n) rfl rfl rfl (rn_bool_tf rfl) rfl (entl_bor (use_lo rfl) rfl rfl entl_nil)))
   (fun c4 h => bif_split h
   (fun c5 h => bif_split h
   (fun c6 h => bif_split h
   (fun c7 h => ret_at hR _ h (fun n => n) rfl rfl rfl (rn_bool_tf rfl) rfl (entl_bor (use_lo rfl) rfl rfl entl_nil))
   (fun c7 h => ret_at hR _ h (fun n => n) rfl rfl rfl (rn_bool_tf rfl) rfl (entl_bor (use_lo rfl) rfl rfl entl_nil)))
   (fun c6 h => ret_at hR _ h (fun n => n) rfl rfl rfl (rn_bool_tf rfl) rfl (entl_bor (use_lo rfl) rfl rfl entl_nil)))
   (fun c5 h => bif_split h
   (fun c6 h => bif_split h
   (fun c7 h => bif_split h
   (fun c8 h => ret_at hR _ h (fun n => n) rfl rfl rfl (rn_bool_tf rfl) rfl (entl_bor (use_lo rfl) rfl rfl entl_nil))
   (fun c8 h => ret_at hR _ h (fun n => n) rfl rfl rfl (rn_bool_tf rfl) rfl (entl_bor (use_lo rfl) rfl rfl entl_nil)))
   (fun c7 h => ret_at hR _ h (fun n => n) rfl rfl rfl (rn_bool_tf rfl) rfl (entl_bor (use_lo rfl) rfl rfl entl_nil)))
   (fun c6 h => bif_split h
   (fun c7 h => bif_split h
   (fun c8 h => bif_split h
   (fun c9 h => bif_split h
   (fun c10 h => bif_split h
   (fun c11 h => bif_split h
   (fun c12 h => bif_split h
   (fun c13 h => ret_at hR _ h (fun n => n) rfl rfl rfl (rn_bool_tf rfl) rfl (entl_bor (use_lo rfl) rfl rfl entl_nil))
   (fun c13 h => ret_at hR _ h (fun n => n) rfl rfl rfl (rn_bool_tf rfl) rfl (entl_bor (use_lo rfl) rfl rfl entl_nil)))
   (fun c12 h => ret_at hR _ h (fun n => n) rfl rfl rfl (rn_bool_tf rfl) rfl (entl_bor (use_lo rfl) rfl rfl entl_nil)))
   (fun c11 h => no_some h))
   (fun c10 h => no_some h))
   (fun c9 h => no_some h))
   (fun c8 h => no_some h))
   (fun c7 h => no_some h))))))
   (fun c3 h => no_some h))
   (fun c2 h => no_some h))
   (fun c1 h => cond_yes rfl (cond_yes rfl (ret_at hR _ h (fun n => n) rfl rfl rfl (rn_bool_tf rfl) rfl (entl_bor (use_lo rfl) rfl rfl entl_nil)))))
   (fun c0 h => no_some h)))
theorem a10 (al nl ml : Nat) (tl : Nat → ByteArray) (vl : Nat → Int) (gl : Nat → Int) (wl : Nat → Int) (ci : Int) {r : Rt10} (h : Goes ((q10 al nl ml tl vl gl wl ci)) ((p10 al nl ml tl vl gl wl ci)) r) : CallR Try.prog 10 [.loose ⟨0, 4, al, 0⟩ nl, .int .i64 ci] [[(0, (false, .cols ml [.str tl, .int .i64 vl, .int .i64 gl, .int .i64 wl]))]] 1 ((V10 al nl ml tl vl gl wl ci) r) ((fun r => [newL (1 + 1) ((N10 al nl ml tl vl gl wl ci) r) ++ [(0, (false, .cols ml [.str tl, .int .i64 vl, .int .i64 gl, .int .i64 wl]))]]) r) 400 ∧ ∃ F, Try.prog.funcs[10]? = some F ∧ F.body.isSome = true ∧ (F.name == "runtime.NumGoroutine") = false := by
  refine dec_calls (sy := true) (f := 10) (lo := 1) (hi := 400) (H := [[(0, (false, .cols ml [.str tl, .int .i64 vl, .int .i64 gl, .int .i64 wl]))]]) (args := [.loose ⟨0, 4, al, 0⟩ nl, .int .i64 ci]) Try.envOk Try.mixed xL10_ok ((I10 al nl ml tl vl gl wl ci)) ((V10 al nl ml tl vl gl wl ci)) (fun r => [newL (1 + 1) ((N10 al nl ml tl vl gl wl ci) r) ++ [(0, (false, .cols ml [.str tl, .int .i64 vl, .int .i64 gl, .int .i64 wl]))]]) (fn := mkFn Try.f10) (ts := []) (n := 400) rfl (by decide) (by simp) (names_of rfl) ?_ ?_ ?_ h
  · intro s; exact s.elim
  · intro Kst Kret x hS hR h
    exact Holds.eq (te10 cond Kst Kret al nl ml tl vl gl wl ci) (be10 al nl ml tl vl gl wl ci Kst Kret x hS hR h)
  · intro Kst Kret x hS hR s h; exact s.elim
noncomputable def k10 : Con := ⟨10, [.one (.list [.str, .int .i64, .int .i64, .int .i64]), .one (.plain (.int .i64))], fun (x : (Nat × Nat × Nat × (Nat → ByteArray) × (Nat → Int) × (Nat → Int) × (Nat → Int) × Unit) × Int × Unit) => (fun (al nl ml : Nat) (tl : Nat → ByteArray) (vl : Nat → Int) (gl : Nat → Int) (wl : Nat → Int) (ci : Int) => decide (al + nl ≤ ml)) x.1.1 x.1.2.1 x.1.2.2.1 x.1.2.2.2.1 x.1.2.2.2.2.1 x.1.2.2.2.2.2.1 x.1.2.2.2.2.2.2.1 x.2.1, fun (x : (Nat × Nat × Nat × (Nat → ByteArray) × (Nat → Int) × (Nat → Int) × (Nat → Int) × Unit) × Int × Unit) => (fun (al nl ml : Nat) (tl : Nat → ByteArray) (vl : Nat → Int) (gl : Nat → Int) (wl : Nat → Int) (ci : Int) => (V10 al nl ml tl vl gl wl ci) (true)) x.1.1 x.1.2.1 x.1.2.2.1 x.1.2.2.2.1 x.1.2.2.2.2.1 x.1.2.2.2.2.2.1 x.1.2.2.2.2.2.2.1 x.2.1, fun (x : (Nat × Nat × Nat × (Nat → ByteArray) × (Nat → Int) × (Nat → Int) × (Nat → Int) × Unit) × Int × Unit) => (fun (al nl ml : Nat) (tl : Nat → ByteArray) (vl : Nat → Int) (gl : Nat → Int) (wl : Nat → Int) (ci : Int) => (N10 al nl ml tl vl gl wl ci) (true)) x.1.1 x.1.2.1 x.1.2.2.1 x.1.2.2.2.1 x.1.2.2.2.2.1 x.1.2.2.2.2.2.1 x.1.2.2.2.2.2.2.1 x.2.1, fun _ _ => .dead⟩
theorem s10 (al nl ml : Nat) (tl : Nat → ByteArray) (vl : Nat → Int) (gl : Nat → Int) (wl : Nat → Int) (ci : Int) (hp : al + nl ≤ ml) : Goes ((q10 al nl ml tl vl gl wl ci)) ((p10 al nl ml tl vl gl wl ci)) (true) := by
  have hk : (S.slkS (S.tskS nl (fun j => tl (j + al)) (fun j => vl (j + al)) (fun j => gl (j + al)) (fun j => wl (j + al))) nl ci (S.misT nl (fun j => vl (j + al)) (fun j => gl (j + al)) (fun j => wl (j + al))) (S.firF (fun x => S.slP nl (fun j => vl (j + al)) (fun j => gl (j + al)) (fun j => wl (j + al)) ci.toNat x) (wl (ci.toNat + al) - gl (ci.toNat + al) + 1).toNat 0)).2 = 0 → (0 ≤ ci ∧ ci < nl) ∧ S.okT nl (fun j => vl (j + al)) (fun j => gl (j + al)) (fun j => wl (j + al)) = true ∧ (0 ≤ (S.slkS (S.tskS nl (fun j => tl (j + al)) (fun j => vl (j + al)) (fun j => gl (j + al)) (fun j => wl (j + al))) nl ci (S.misT nl (fun j => vl (j + al)) (fun j => gl (j + al)) (fun j => wl (j + al))) (S.firF (fun x => S.slP nl (fun j => vl (j + al)) (fun j => gl (j + al)) (fun j => wl (j + al)) ci.toNat x) (wl (ci.toNat + al) - gl (ci.toNat + al) + 1).toNat 0)).1 ∧ (S.slkS (S.tskS nl (fun j => tl (j + al)) (fun j => vl (j + al)) (fun j => gl (j + al)) (fun j => wl (j + al))) nl ci (S.misT nl (fun j => vl (j + al)) (fun j => gl (j + al)) (fun j => wl (j + al))) (S.firF (fun x => S.slP nl (fun j => vl (j + al)) (fun j => gl (j + al)) (fun j => wl (j + al)) ci.toNat x) (wl (ci.toNat + al) - gl (ci.toNat + al) + 1).toNat 0)).1 ≤ 1000000) ∧ (S.misS (S.tskS nl (fun j => tl (j + al)) (fun j => vl (j + al)) (S.updC (fun j => gl (j + al)) ci.toNat (S.slkS (S.tskS nl (fun j => tl (j + al)) (fun j => vl (j + al)) (fun j => gl (j + al)) (fun j => wl (j + al))) nl ci (S.misT nl (fun j => vl (j + al)) (fun j => gl (j + al)) (fun j => wl (j + al))) (S.firF (fun x => S.slP nl (fun j => vl (j + al)) (fun j => gl (j + al)) (fun j => wl (j + al)) ci.toNat x) (wl (ci.toNat + al) - gl (ci.toNat + al) + 1).toNat 0)).1) (fun j => wl (j + al))) (S.misT nl (fun j => vl (j + al)) (S.updC (fun j => gl (j + al)) ci.toNat (S.slkS (S.tskS nl (fun j => tl (j + al)) (fun j => vl (j + al)) (fun j => gl (j + al)) (fun j => wl (j + al))) nl ci (S.misT nl (fun j => vl (j + al)) (fun j => gl (j + al)) (fun j => wl (j + al))) (S.firF (fun x => S.slP nl (fun j => vl (j + al)) (fun j => gl (j + al)) (fun j => wl (j + al)) ci.toNat x) (wl (ci.toNat + al) - gl (ci.toNat + al) + 1).toNat 0)).1) (fun j => wl (j + al)))).2 = 10 ∧ (S.misS (S.tskS nl (fun j => tl (j + al)) (fun j => vl (j + al)) (S.updC (fun j => gl (j + al)) ci.toNat ((S.slkS (S.tskS nl (fun j => tl (j + al)) (fun j => vl (j + al)) (fun j => gl (j + al)) (fun j => wl (j + al))) nl ci (S.misT nl (fun j => vl (j + al)) (fun j => gl (j + al)) (fun j => wl (j + al))) (S.firF (fun x => S.slP nl (fun j => vl (j + al)) (fun j => gl (j + al)) (fun j => wl (j + al)) ci.toNat x) (wl (ci.toNat + al) - gl (ci.toNat + al) + 1).toNat 0)).1 + 1)) (fun j => wl (j + al))) (S.misT nl (fun j => vl (j + al)) (S.updC (fun j => gl (j + al)) ci.toNat ((S.slkS (S.tskS nl (fun j => tl (j + al)) (fun j => vl (j + al)) (fun j => gl (j + al)) (fun j => wl (j + al))) nl ci (S.misT nl (fun j => vl (j + al)) (fun j => gl (j + al)) (fun j => wl (j + al))) (S.firF (fun x => S.slP nl (fun j => vl (j + al)) (fun j => gl (j + al)) (fun j => wl (j + al)) ci.toNat x) (wl (ci.toNat + al) - gl (ci.toNat + al) + 1).toNat 0)).1 + 1)) (fun j => wl (j + al)))).2 ≠ 10 := fun h => by
    obtain ⟨he, hi, hm, h1⟩ := slk_ok h
    obtain ⟨hn, hT⟩ := tskS_ok he
    have hAc : 1 ≤ vl (ci.toNat + al) ∧ vl (ci.toNat + al) ≤ 1000000 ∧ 1 ≤ gl (ci.toNat + al) ∧ gl (ci.toNat + al) ≤ vl (ci.toNat + al) ∧ gl (ci.toNat + al) ≤ wl (ci.toNat + al) ∧ wl (ci.toNat + al) ≤ vl (ci.toNat + al) := (okT_at hT).2 ci.toNat (by omega)
    obtain ⟨⟨f1, f2⟩, f3, f4⟩ := firF_b (f := fun x => S.slP nl (fun j => vl (j + al)) (fun j => gl (j + al)) (fun j => wl (j + al)) ci.toNat x) (k := (wl (ci.toNat + al) - gl (ci.toNat + al) + 1).toNat) (x := 0)
    have hz : S.slP nl (fun j => vl (j + al)) (fun j => gl (j + al)) (fun j => wl (j + al)) ci.toNat 0 = false := by
      refine decide_eq_false fun h => ?_
      rw [misT_congr (p := (fun j => vl (j + al))) (p' := (fun j => vl (j + al))) (c := (fun j => gl (j + al))) (c' := S.updC (fun j => gl (j + al)) ci.toNat 0) (d := (fun j => wl (j + al))) (d' := (fun j => wl (j + al))) (fun j _ => rfl) (fun j _ => ?_) (fun j _ => rfl)] at hm
      · omega
      · by_cases hj : j = ci.toNat
        · rw [hj, updC_same]; exact (Int.add_zero _).symm
        · rw [updC_ne hj]
    have f5 : 1 ≤ S.firF (fun x => S.slP nl (fun j => vl (j + al)) (fun j => gl (j + al)) (fun j => wl (j + al)) ci.toNat x) (wl (ci.toNat + al) - gl (ci.toNat + al) + 1).toNat 0 := by
      rcases Int.lt_or_le 0 (S.firF (fun x => S.slP nl (fun j => vl (j + al)) (fun j => gl (j + al)) (fun j => wl (j + al)) ci.toNat x) (wl (ci.toNat + al) - gl (ci.toNat + al) + 1).toNat 0) with h | h
      · omega
      · have h0 : S.firF (fun x => S.slP nl (fun j => vl (j + al)) (fun j => gl (j + al)) (fun j => wl (j + al)) ci.toNat x) (wl (ci.toNat + al) - gl (ci.toNat + al) + 1).toNat 0 = 0 := by omega
        have := f4 (by omega)
        rw [h0] at this
        exact Bool.noConfusion (this.symm.trans hz)
    rw [h1]
    clear h1 h
    generalize S.firF (fun x => S.slP nl (fun j => vl (j + al)) (fun j => gl (j + al)) (fun j => wl (j + al)) ci.toNat x) (wl (ci.toNat + al) - gl (ci.toNat + al) + 1).toNat 0 = fr at *
    have g1 : gl (ci.toNat + al) + (fr - 1) ≤ wl (ci.toNat + al) := by omega
    refine ⟨hi, hT, ⟨by omega, by omega⟩, ?_, ?_⟩
    · have hs := f3 (fr - 1) (by omega) (by omega)
      have hs : S.misT nl (fun j => vl (j + al)) (S.updC (fun j => gl (j + al)) ci.toNat (fr - 1)) (fun j => wl (j + al)) < 0 := Int.not_le.1 (of_decide_eq_false hs)
      unfold S.misS
      rw [tskS_upd he (by omega) (by omega), if_pos (show _ ≤ _ from g1), if_pos rfl, if_pos hs]
    · rw [show fr - 1 + 1 = fr by omega]
      unfold S.misS
      rw [tskS_upd he (by omega) (by omega)]
      by_cases hc : gl (ci.toNat + al) + fr ≤ wl (ci.toNat + al)
      · rw [if_pos (show _ ≤ _ from hc), if_pos rfl]
        have hs : (S.slP nl (fun j => vl (j + al)) (fun j => gl (j + al)) (fun j => wl (j + al)) ci.toNat fr) = true := f4 (by omega)
        have hs : S.misT nl (fun j => vl (j + al)) (S.updC (fun j => gl (j + al)) ci.toNat fr) (fun j => wl (j + al)) ≥ 0 := of_decide_eq_true hs
        rw [if_neg (by omega)]
        exact fun h => by cases h
      · rw [if_neg (show ¬ (_ ≤ _) from hc), if_neg (by decide)]
        exact fun h => by cases h
  unfold p10
  simp only [with_len, with_tsk', with_mis']
  generalize S.misS (S.tskS nl (fun j => tl (j + al)) (fun j => vl (j + al)) (S.updC (fun j => gl (j + al)) ci.toNat (S.slkS (S.tskS nl (fun j => tl (j + al)) (fun j => vl (j + al)) (fun j => gl (j + al)) (fun j => wl (j + al))) nl ci (S.misT nl (fun j => vl (j + al)) (fun j => gl (j + al)) (fun j => wl (j + al))) (S.firF (fun x => S.slP nl (fun j => vl (j + al)) (fun j => gl (j + al)) (fun j => wl (j + al)) ci.toNat x) (wl (ci.toNat + al) - gl (ci.toNat + al) + 1).toNat 0)).1) (fun j => wl (j + al))) (S.misT nl (fun j => vl (j + al)) (S.updC (fun j => gl (j + al)) ci.toNat (S.slkS (S.tskS nl (fun j => tl (j + al)) (fun j => vl (j + al)) (fun j => gl (j + al)) (fun j => wl (j + al))) nl ci (S.misT nl (fun j => vl (j + al)) (fun j => gl (j + al)) (fun j => wl (j + al))) (S.firF (fun x => S.slP nl (fun j => vl (j + al)) (fun j => gl (j + al)) (fun j => wl (j + al)) ci.toNat x) (wl (ci.toNat + al) - gl (ci.toNat + al) + 1).toNat 0)).1) (fun j => wl (j + al))) = m1 at *
  generalize S.misS (S.tskS nl (fun j => tl (j + al)) (fun j => vl (j + al)) (S.updC (fun j => gl (j + al)) ci.toNat ((S.slkS (S.tskS nl (fun j => tl (j + al)) (fun j => vl (j + al)) (fun j => gl (j + al)) (fun j => wl (j + al))) nl ci (S.misT nl (fun j => vl (j + al)) (fun j => gl (j + al)) (fun j => wl (j + al))) (S.firF (fun x => S.slP nl (fun j => vl (j + al)) (fun j => gl (j + al)) (fun j => wl (j + al)) ci.toNat x) (wl (ci.toNat + al) - gl (ci.toNat + al) + 1).toNat 0)).1 + 1)) (fun j => wl (j + al))) (S.misT nl (fun j => vl (j + al)) (S.updC (fun j => gl (j + al)) ci.toNat ((S.slkS (S.tskS nl (fun j => tl (j + al)) (fun j => vl (j + al)) (fun j => gl (j + al)) (fun j => wl (j + al))) nl ci (S.misT nl (fun j => vl (j + al)) (fun j => gl (j + al)) (fun j => wl (j + al))) (S.firF (fun x => S.slP nl (fun j => vl (j + al)) (fun j => gl (j + al)) (fun j => wl (j + al)) ci.toNat x) (wl (ci.toNat + al) - gl (ci.toNat + al) + 1).toNat 0)).1 + 1)) (fun j => wl (j + al))) = m2 at *
  generalize S.slkS (S.tskS nl (fun j => tl (j + al)) (fun j => vl (j + al)) (fun j => gl (j + al)) (fun j => wl (j + al))) nl ci (S.misT nl (fun j => vl (j + al)) (fun j => gl (j + al)) (fun j => wl (j + al))) (S.firF (fun x => S.slP nl (fun j => vl (j + al)) (fun j => gl (j + al)) (fun j => wl (j + al)) ci.toNat x) (wl (ci.toNat + al) - gl (ci.toNat + al) + 1).toNat 0) = r at *
  refine goes_ok (decide_eq_true hp) ?_
  cases hF : S.fewT nl fun j => tl (j + al)
  · exact goes_no rfl rfl
  · refine goes_ok rfl ?_
    have h12 : nl ≤ 12 := (of_decide_eq_true hF).1
    refine goes_ok (decide_eq_true ⟨hp, by omega⟩) ?_
    refine goes_ok (decide_eq_true (by omega)) ?_
    refine goes_no (bne_self_eq_false _) ?_
    refine goes_no (bne_self_eq_false _) ?_
    by_cases h0 : r.2 = 0
    · obtain ⟨k1, k2, k3, k4, k5⟩ := hk h0
      refine goes_no (by rw [h0]; rfl) ?_
      clear hk hF
      repeat' first
        | with_reducible exact goes_inr.mpr rfl
        | ((with_reducible refine goes_ok ?_ ?_); focus (first | exact decide_eq_true ⟨hp, k1, k2, by omega, by omega⟩ | exact decide_eq_true (by omega) | (rw [lim64]; exact decide_eq_true (by omega)) | (rw [k4]; rfl) | exact bne_iff_ne.mpr k5))
    · refine goes_ok (by simpa using h0) ?_
      exact goes_ok (beq_self_eq_true _) (goes_ok (beq_self_eq_true _) rfl)

theorem k10_ok : k10.ok Try.prog := by
  intro x hx
  obtain ⟨⟨al, nl, ml, tl, vl, gl, wl, _⟩, ci, _⟩ := x
  obtain ⟨h1, h2⟩ := a10 al nl ml tl vl gl wl ci (s10 al nl ml tl vl gl wl ci (of_dec hx rfl))
  exact ⟨⟨400, (by decide : 1 + 1 + 0 ≤ 400), h1⟩, h2⟩

end Go.Ev
