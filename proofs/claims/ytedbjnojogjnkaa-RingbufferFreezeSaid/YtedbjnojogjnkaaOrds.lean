/-
  A region that draws its order and ends in a store into a place that it has read: what is known of the world is asked for behind every operation but the last ones, which wait for all that reads.
-/
import Derived.Test.YtedbjnojogjnkaaBase
import Derived.OrdersHeld
namespace Go.Proofs.Ytedbjnojogjnkaa
open Go.RowKit
section
variable {P : Program} {ops : Array Oper} {Q : Exit → Act → World → Prop} {md : Region.Mode} {S : World → Prop}

/-- Whatever comes up next, S holds behind it unless it is one of the last, T. -/
def Lefts (P : Program) (md : Region.Mode) (ops : Array Oper) (Q : Exit → Act → World → Prop) (S : World → Prop) (T : Nat → Bool) : Nat → Array Bool → Act → World → Prop
  | 0, seen, a, w => Region.ready md ops seen = [] ∧ Q .normal a w
  | n + 1, seen, a, w => (Region.ready md ops seen = [] → Q .normal a w) ∧
      ∀ i ∈ Region.ready md ops seen, wpOp P ops Q i (fun b x => (T i = false → S x) ∧ Lefts P md ops Q S T n (seen.setIfInBounds i true) b x) a w

theorem lefts_any {T : Nat → Bool} : ∀ (n : Nat) (seen : Array Bool) (a : Act) (w : World), Lefts P md ops Q S T n seen a w → wpAny P md ops Q n seen a w := by
  intro n
  induction n with
  | zero => exact fun _ _ _ h => h
  | succ n ih => exact fun seen a w h => ⟨h.1, fun i hi => wpOp_mono (fun b x hb => ih _ b x hb.2) (h.2 i hi)⟩

/-- What reads alone, and reads the same as long as something is left, may be done first. -/
theorem lefts_first {i : Nat} {T : Nat → Bool} {o : Oper} {v : Value} (ho : ops[i]? = some o) {C : Nat → Bool} (hc : ∀ j oj, C j = true → ops[j]? = some oj → ∃ e ∈ oj.after, Region.binds md e = true ∧ (e.on = i ∨ C e.on = true)) (ht : ∀ j, T j = true → j = i ∨ C j = true ∨ ops[j]? = none) (hs : Region.noSelect ops = true) (hQ : ∀ c a w, Q (.panic c) (a.put o.dst v) w → Q (.panic c) a w) :
    ∀ (n : Nat) (seen : Array Bool) (a : Act) (w : World),
      (∀ j oj, ops[j]? = some oj → j ≠ i → seen.getD j true = false → (∀ e ∈ oj.after, Region.binds md e = true → e.on ≠ i) → o.apart ops oj = true) →
      (∀ j, C j = true → seen.getD j false = false) → i ∈ Region.ready md ops seen → YieldsIf P ops S o v a → S w → Lefts P md ops Q S T n (seen.setIfInBounds i true) (a.put o.dst v) w → Lefts P md ops Q S T (n + 1) seen a w := by
  intro n
  induction n with
  | zero =>
    intro seen a w _ _ hi hy hS hl
    constructor
    · intro h; rw [h] at hi; cases hi
    · intro j hj
      by_cases e : j = i
      · subst e
        exact hy.wpOp ho hS ⟨fun _ => hS, hl⟩
      · have hj' := ready_mono hj e
        rw [hl.1] at hj'
        cases hj'
  | succ n ih =>
    intro seen a w hfree hu hi hy hS hl
    constructor
    · intro h; rw [h] at hi; cases hi
    · intro j hj
      by_cases e : j = i
      · subst e
        exact hy.wpOp ho hS ⟨fun _ => hS, hl⟩
      · obtain ⟨hun, oj, hoj, hall⟩ := mem_ready.1 hj
        have hi0 := (mem_ready.1 hi).1
        have hno : ∀ d ∈ oj.after, Region.binds md d = true → d.on ≠ i := by
          intro d hd hb he
          have h1 := hall d hd hb
          rw [he] at h1
          by_cases hlt : i < seen.size
          · simp [hlt] at hi0 h1
            rw [hi0] at h1
            cases h1
          · have hge : seen.size ≤ i := by omega
            simp [Array.getElem?_eq_none hge] at h1
        have hi' := ready_mono hi (fun h => e h.symm)
        have step := wpOp_putIf hoj (hfree j oj hoj e hun hno) (fun cs b => Region.noSelect_spec hs i o cs b ho) (fun cs b => Region.noSelect_spec hs j oj cs b hoj) hQ hy (hl.2 j (ready_mono hj e))
        refine wpOp_mono ?_ step
        rintro b x ⟨hyb, hSx, hlx⟩
        have hjC : C j = false := by
          cases hC : C j with
          | false => rfl
          | true =>
            obtain ⟨d, hd, hb, he⟩ := hc j oj hC hoj
            have h1 := hall d hd hb
            rcases he with he | he
            · exact absurd he (hno d hd hb)
            · rw [hu _ he] at h1; cases h1
        have hjt : T j = false := by
          cases hT : T j with
          | false => rfl
          | true =>
            rcases ht j hT with h1 | h1 | h1
            · exact absurd h1 e
            · exact absurd h1 (by simpa using hjC)
            · rw [hoj] at h1; cases h1
        refine ⟨fun _ => hSx hjt, ih _ b x ?_ ?_ hi' hyb (hSx hjt) ?_⟩
        · intro k ok hk hki hunk hnok
          refine hfree k ok hk hki ?_ hnok
          by_cases hjk : j = k
          · subst hjk; exact hun
          · rwa [getD_set_ne true hjk] at hunk
        · intro k hk
          have hkj : j ≠ k := fun h => by rw [h, hk] at hjC; cases hjC
          rw [getD_set_ne false hkj]
          exact hu k hk
        · rw [Array.setIfInBounds_comm _ _ e]
          exact hlx
/-- The same, its conditions to be reckoned: C are those that wait for it, directly or not. -/
theorem lefts_take (C : Nat → Bool) {i : Nat} {T : Nat → Bool} {o : Oper} {v : Value} {n : Nat} {seen : Array Bool} {a : Act} {w : World} (ho : ops[i]? = some o)
    (hc : ((List.range ops.size).all fun j => !C j || (match ops[j]? with | some oj => oj.after.any fun e => Region.binds md e && (e.on == i || C e.on) | none => true)) = true)
    (ht : ((List.range ops.size).all fun j => !T j || j == i || C j) = true) (hu : ((List.range ops.size).all fun j => !C j || !seen.getD j false) = true) (hsz : seen.size = ops.size)
    (hs : Region.noSelect ops = true) (hf : Region.free md ops seen i = true) (hr : (Region.ready md ops seen).contains i = true) (hQ : ∀ c a w, Q (.panic c) (a.put o.dst v) w → Q (.panic c) a w)
    (hy : YieldsIf P ops S o v a) (hS : S w) (h : Lefts P md ops Q S T n (seen.setIfInBounds i true) (a.put o.dst v) w) : Lefts P md ops Q S T (n + 1) seen a w := by
  refine lefts_first (C := C) ho ?_ ?_ hs hQ n seen a w (Region.free_spec ho hf) ?_ (by simpa using hr) hy hS h
  · intro j oj hC hoj
    have hlt : j < ops.size := (Array.getElem?_eq_some_iff.1 hoj).1
    have := List.all_eq_true.1 hc j (by simpa using hlt)
    simp only [hoj, hC, Bool.not_true, Bool.false_or] at this
    obtain ⟨e, he, hb⟩ := Array.any_eq_true'.1 this
    simp only [Bool.and_eq_true, Bool.or_eq_true, beq_iff_eq] at hb
    exact ⟨e, he, hb⟩
  · intro j hT
    by_cases hlt : j < ops.size
    · have := List.all_eq_true.1 ht j (by simpa using hlt)
      simp only [hT, Bool.not_true, Bool.false_or, Bool.or_eq_true, beq_iff_eq] at this
      rcases this with h1 | h1
      · exact .inl h1
      · exact .inr (.inl h1)
    · exact .inr (.inr (Array.getElem?_eq_none (by omega)))
  · intro j hC
    by_cases hlt : j < ops.size
    · have := List.all_eq_true.1 hu j (by simpa using hlt)
      simpa [hC] using this
    · have hge : seen.size ≤ j := by omega
      simp [Array.getElem?_eq_none hge]
/-- What yields in any world may be done first, if S is not asked behind it. -/
theorem lefts_free' {i : Nat} {T : Nat → Bool} {o : Oper} {v : Value} (ho : ops[i]? = some o) (hT : T i = true) (hs : Region.noSelect ops = true) (hQ : ∀ c a w, Q (.panic c) (a.put o.dst v) w → Q (.panic c) a w) :
    ∀ (n : Nat) (seen : Array Bool) (a : Act) (w : World),
      (∀ j oj, ops[j]? = some oj → j ≠ i → seen.getD j true = false → (∀ e ∈ oj.after, Region.binds md e = true → e.on ≠ i) → o.apart ops oj = true) →
      i ∈ Region.ready md ops seen → YieldsIf P ops (fun _ => True) o v a → Lefts P md ops Q S T n (seen.setIfInBounds i true) (a.put o.dst v) w → Lefts P md ops Q S T (n + 1) seen a w := by
  intro n
  induction n with
  | zero =>
    intro seen a w _ hi hy hl
    constructor
    · intro h; rw [h] at hi; cases hi
    · intro j hj
      by_cases e : j = i
      · subst e
        exact hy.wpOp ho trivial ⟨fun h => (by rw [hT] at h; cases h), hl⟩
      · have hj' := ready_mono hj e
        rw [hl.1] at hj'
        cases hj'
  | succ n ih =>
    intro seen a w hfree hi hy hl
    constructor
    · intro h; rw [h] at hi; cases hi
    · intro j hj
      by_cases e : j = i
      · subst e
        exact hy.wpOp ho trivial ⟨fun h => (by rw [hT] at h; cases h), hl⟩
      · obtain ⟨hun, oj, hoj, hall⟩ := mem_ready.1 hj
        have hi0 := (mem_ready.1 hi).1
        have hno : ∀ d ∈ oj.after, Region.binds md d = true → d.on ≠ i := by
          intro d hd hb he
          have h1 := hall d hd hb
          rw [he] at h1
          by_cases hlt : i < seen.size
          · simp [hlt] at hi0 h1
            rw [hi0] at h1
            cases h1
          · have hge : seen.size ≤ i := by omega
            simp [Array.getElem?_eq_none hge] at h1
        have hi' := ready_mono hi (fun h => e h.symm)
        have step := wpOp_putIf hoj (hfree j oj hoj e hun hno) (fun cs b => Region.noSelect_spec hs i o cs b ho) (fun cs b => Region.noSelect_spec hs j oj cs b hoj) hQ hy (hl.2 j (ready_mono hj e))
        refine wpOp_mono ?_ step
        rintro b x ⟨hyb, hSx, hlx⟩
        refine ⟨hSx, ih _ b x ?_ hi' hyb ?_⟩
        · intro k ok hk hki hunk hnok
          refine hfree k ok hk hki ?_ hnok
          by_cases hjk : j = k
          · subst hjk; exact hun
          · rwa [getD_set_ne true hjk] at hunk
        · rw [Array.setIfInBounds_comm _ _ e]
          exact hlx
theorem lefts_free {i : Nat} {T : Nat → Bool} {o : Oper} {v : Value} {n : Nat} {seen : Array Bool} {a : Act} {w : World} (ho : ops[i]? = some o) (hT : T i = true) (hs : Region.noSelect ops = true) (hf : Region.free md ops seen i = true)
    (hr : (Region.ready md ops seen).contains i = true) (hQ : ∀ c a w, Q (.panic c) (a.put o.dst v) w → Q (.panic c) a w) (hy : YieldsIf P ops (fun _ => True) o v a) (h : Lefts P md ops Q S T n (seen.setIfInBounds i true) (a.put o.dst v) w) : Lefts P md ops Q S T (n + 1) seen a w :=
  lefts_free' ho hT hs hQ n seen a w (Region.free_spec ho hf) (by simpa using hr) hy h
/-- One alone can come up. -/
theorem lefts_one {i : Nat} {T : Nat → Bool} {o : Oper} {n : Nat} {seen : Array Bool} {a : Act} {w : World} (ho : ops[i]? = some o) (hr : Region.ready md ops seen = [i])
    (h : ∀ K : Act → World → Prop, Hid (∀ b x, (T i = false → S x) → Lefts P md ops Q S T n (seen.setIfInBounds i true) b x → K b x) → if Region.wanted o (yielded ops a.tmps) = true then Oper.wp P o a w K Q else K (a.put o.dst undef) w) :
    Lefts P md ops Q S T (n + 1) seen a w := by
  refine ⟨fun h0 => (by rw [hr] at h0; cases h0), fun j hj => ?_⟩
  rw [hr] at hj
  obtain rfl : j = i := by simpa using hj
  have := h (fun b x => (T j = false → S x) ∧ Lefts P md ops Q S T n (seen.setIfInBounds j true) b x) (Lib.hid fun b x h1 h2 => ⟨h1, h2⟩)
  unfold wpOp
  simp only [ho]
  split
  · rename_i hw
    rw [if_pos hw] at this
    exact .inl this
  · rename_i hw
    rw [if_neg hw] at this
    exact this
/-- Two can come up. -/
theorem lefts_two {i j : Nat} {T : Nat → Bool} {o o' : Oper} {n : Nat} {seen : Array Bool} {a : Act} {w : World} (ho : ops[i]? = some o) (ho' : ops[j]? = some o') (hr : Region.ready md ops seen = [i, j])
    (h : ∀ K : Act → World → Prop, Hid (∀ b x, (T i = false → S x) → Lefts P md ops Q S T n (seen.setIfInBounds i true) b x → K b x) → if Region.wanted o (yielded ops a.tmps) = true then Oper.wp P o a w K Q else K (a.put o.dst undef) w)
    (h' : ∀ K : Act → World → Prop, Hid (∀ b x, (T j = false → S x) → Lefts P md ops Q S T n (seen.setIfInBounds j true) b x → K b x) → if Region.wanted o' (yielded ops a.tmps) = true then Oper.wp P o' a w K Q else K (a.put o'.dst undef) w) :
    Lefts P md ops Q S T (n + 1) seen a w := by
  refine ⟨fun h0 => (by rw [hr] at h0; cases h0), fun m hm => ?_⟩
  have one : ∀ (m : Nat) (o : Oper), ops[m]? = some o → (∀ K : Act → World → Prop, Hid (∀ b x, (T m = false → S x) → Lefts P md ops Q S T n (seen.setIfInBounds m true) b x → K b x) → if Region.wanted o (yielded ops a.tmps) = true then Oper.wp P o a w K Q else K (a.put o.dst undef) w) →
      wpOp P ops Q m (fun b x => (T m = false → S x) ∧ Lefts P md ops Q S T n (seen.setIfInBounds m true) b x) a w := by
    intro m o hm h
    have := h (fun b x => (T m = false → S x) ∧ Lefts P md ops Q S T n (seen.setIfInBounds m true) b x) (Lib.hid fun b x h1 h2 => ⟨h1, h2⟩)
    unfold wpOp
    simp only [hm]
    split
    · rename_i hw
      rw [if_pos hw] at this
      exact .inl this
    · rename_i hw
      rw [if_neg hw] at this
      exact this
  rw [hr] at hm
  have hm' : m = i ∨ m = j := by simpa using hm
  rcases hm' with rfl | rfl
  · exact one _ _ ho h
  · exact one _ _ ho' h'
theorem lefts_done {n : Nat} {T : Nat → Bool} {seen : Array Bool} {a : Act} {w : World} (hr : Region.ready md ops seen = []) (h : Q .normal a w) : Lefts P md ops Q S T n seen a w := by
  cases n with
  | zero => exact ⟨hr, h⟩
  | succ n => exact ⟨fun _ => h, fun i hi => by rw [hr] at hi; cases hi⟩
theorem lefts_region {id : Nat} {a : Act} {w : World} (S : World → Prop) (T : Nat → Bool) (hm : P.follows .mixedOrders = true) (hS : S w.drew) (h : S w.drew → Lefts P .any ops Q S T ops.size (Array.replicate ops.size false) a w.drew) : (Code.region id ops true).wp P Q a w :=
  wp_region_any hm (lefts_any _ _ _ _ (h hS))
end
end Go.Proofs.Ytedbjnojogjnkaa
