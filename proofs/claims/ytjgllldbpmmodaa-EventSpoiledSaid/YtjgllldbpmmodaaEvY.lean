/-
  A function's run as a plain machine of steps: from the machine's end to the function's contract; lists in memory as lists.
-/
import Derived.Test.YtjgllldbpmmodaaEvC
namespace Go.Ev
open Go.RowKit
set_option linter.unusedSimpArgs false
set_option linter.unusedVariables false
set_option linter.unusedSectionVars false

/-- A machine: a state leads to another one, or to an answer, or to nothing. -/
def runs {S R : Type} (q : S → Option (S ⊕ R)) : Nat → S → Option R
  | 0, _ => none
  | k + 1, s => match q s with
    | some (.inl s') => runs q k s'
    | some (.inr r) => some r
    | none => none
def Comes {S R : Type} (q : S → Option (S ⊕ R)) (s : S) (r : R) : Prop := ∃ k, runs q k s = some r
def Goes {S R : Type} (q : S → Option (S ⊕ R)) (p : Option (S ⊕ R)) (r : R) : Prop := match p with
  | some (.inl s) => Comes q s r
  | some (.inr r') => r' = r
  | none => False
section
variable {S R : Type} {q : S → Option (S ⊕ R)}
theorem Comes.next {s s' : S} {r : R} (e : q s = some (.inl s')) (h : Comes q s' r) : Comes q s r := by
  obtain ⟨k, hk⟩ := h
  exact ⟨k + 1, by simp only [runs, e]; exact hk⟩
theorem Comes.done {s : S} {r : R} (e : q s = some (.inr r)) : Comes q s r := ⟨1, by simp only [runs, e]⟩
theorem Comes.of {s : S} {r : R} (h : Goes q (q s) r) : Comes q s r := by
  unfold Goes at h
  split at h
  · rename_i e; exact .next e h
  · rename_i e; subst h; exact .done e
  · exact h.elim
theorem goes_inl {s : S} {r : R} : Goes q (some (.inl s)) r = Comes q s r := rfl
theorem goes_inr {r r' : R} : Goes q (some (.inr r')) r = (r' = r) := rfl
theorem goes_none {r : R} : Goes q none r = False := rfl
theorem goes_cond {b : Bool} {x y : Option (S ⊕ R)} {r : R} : Goes q (cond b x y) r = (if b = true then Goes q x r else Goes q y r) := by cases b <;> rfl
theorem goes_if {b : Bool} {x y : Option (S ⊕ R)} {r : R} (h1 : b = true → Goes q x r) (h2 : b = false → Goes q y r) : Goes q (cond b x y) r := by
  cases b
  · exact h2 rfl
  · exact h1 rfl
theorem goes_ok {b : Bool} {x y : Option (S ⊕ R)} {r : R} (hb : b = true) (h1 : Goes q x r) : Goes q (cond b x y) r := by subst hb; exact h1
theorem goes_no {b : Bool} {x y : Option (S ⊕ R)} {r : R} (hb : b = false) (h1 : Goes q y r) : Goes q (cond b x y) r := by subst hb; exact h1
end
/-- A proposition that is not to be looked into. -/
inductive Holds (p : Prop) : Prop
  | mk (h : p) : Holds p
theorem Holds.eq {a b : Prop} (h : a = b) (hb : b) : Holds a := ⟨h ▸ hb⟩
theorem Holds.get {a : Prop} : Holds a → a
  | ⟨h⟩ => h
/-- What a head asks of a stop. -/
def StopAt (lo hi : Nat) (d : Hd) (vals : List PV) (H' : Heap) (fr' : Nat) : Prop :=
  fr' ≤ hi ∧ ∃ ρ : Nat → Nat, Rns (Ren.mp ⟨lo, hi, d.fr, ρ⟩) d.V vals ∧ HpR (Ren.mp ⟨lo, hi, d.fr, ρ⟩) (fun n => fr' ≤ n ∧ n < hi) d.H H'
abbrev KS := List It → List PV → Heap → Nat → Prop
abbrev KR := PV → Heap → Nat → Prop
def HS (lo hi : Nat) {S R : Type} (I : S → Hd) (Kst : KS) (x : S ⊕ R) : Prop := ∀ s, x = .inl s → ∀ V' H' fr', StopAt lo hi (I s) V' H' fr' → Kst (I s).todo V' H' fr'
def HR (lo hi : Nat) {S R : Type} (V : R → PV) (H1 : R → Heap) (Kret : KR) (x : S ⊕ R) : Prop := ∀ r, x = .inr r → ∀ v' H' fr', RetR lo hi (fun v H => v = V r ∧ H = H1 r) v' H' fr' → Kret v' H' fr'
theorem bif_split {α : Type} {c : Bool} {a b : Option α} {x : α} {A B : Prop} (h : cond c a b = some x) (h1 : c = true → a = some x → A) (h2 : c = false → b = some x → B) : cond c A B := by
  cases c
  · exact h2 rfl h
  · exact h1 rfl h
theorem no_some {α : Type} {x : α} {A : Prop} (h : (none : Option α) = some x) : A := by cases h
theorem stop_at {lo hi : Nat} {S R : Type} {I : S → Hd} {Kst : KS} {x : S ⊕ R} (hS : HS lo hi I Kst x) {todo' : List It} {vals : List PV} {H' : Heap} {fr' : Nat} (j : S) (hx : some (Sum.inl j) = some x) (ρ : Nat → Nat) {todo : List It} {V : List PV} {H : Heap} {fr : Nat} (e : I j = ⟨todo, V, H, fr⟩)
    (hf : Nat.ble fr' hi = true) (ht : todo' = todo) (hV : Rns (Ren.mp ⟨lo, hi, fr, ρ⟩) V vals) (hi' : injL (Ren.mp ⟨lo, hi, fr, ρ⟩).nm ((flat H).map (·.1)) = true) (hH : EntL (Ren.mp ⟨lo, hi, fr, ρ⟩) (fun n => fr' ≤ n ∧ n < hi) H' (flat H)) : Kst todo' vals H' fr' := by
  have := hS j (Option.some.inj hx).symm vals H' fr' ⟨le_ok hf, ρ, by rw [e]; exact hV, by rw [e]; exact HpR.mk' hi' hH⟩
  rw [e] at this
  rw [ht]
  exact this
theorem ret_at {lo hi : Nat} {S R : Type} {V : R → PV} {H1 : R → Heap} {Kret : KR} {x : S ⊕ R} (hR : HR lo hi V H1 Kret x) {v' : PV} {H' : Heap} {fr' : Nat} (r : R) (hx : some (Sum.inr r) = some x) (ρ : Nat → Nat) {v0 : PV} {H0 : Heap} (e1 : V r = v0) (e2 : H1 r = H0)
    (hf : Nat.ble fr' hi = true) (hv : Rn (Ren.mp ⟨lo, hi, hi, ρ⟩) v0 v') (hi' : injL (Ren.mp ⟨lo, hi, hi, ρ⟩).nm ((flat H0).map (·.1)) = true) (hH : EntL (Ren.mp ⟨lo, hi, hi, ρ⟩) (fun n => fr' ≤ n ∧ n < hi) H' (flat H0)) : Kret v' H' fr' :=
  hR r (Option.some.inj hx).symm v' H' fr' (ret_intro ρ v0 H0 ⟨e1.symm, e2.symm⟩ hf hv hi' hH)
section
variable {P : Program} {E : Env} (ok : EnvOk P E) (hm : P.follows .mixedOrders = true) {X : Ext} (hX : ExtOk P X)
include ok hm hX
theorem dec_calls {sy : Bool} {lo hi : Nat} {S R : Type} {q : S → Option (S ⊕ R)} {p : Option (S ⊕ R)} {r : R} (I : S → Hd) (V : R → PV) (H1 : R → Heap) {f : FuncId} {fn : FnI} {args : List PV} {H : Heap} {n : Nat} {ts : List Nat} (hf : nthFn E.fs f = some fn) (hl : lo ≤ hi) (hne : H ≠ []) (hN : Names H lo)
    (hI : ∀ s, ItsOk (I s).todo ∧ (I s).H ≠ [] ∧ Names (I s).H (I s).fr ∧ lo ≤ (I s).fr)
    (entry : ∀ Kst Kret x, HS lo hi I Kst x → HR lo hi V H1 Kret x → p = some x → Holds (run cond E sy X true n ⟨f, [.cd fn.body], argT 0 args, [] :: H, lo⟩ (proj lo ts Kst Kret)))
    (step : ∀ Kst Kret x, HS lo hi I Kst x → HR lo hi V H1 Kret x → ∀ s, q s = some x → Holds (run cond E sy X true n ⟨f, (I s).todo, zipT ts (I s).V, (I s).H, (I s).fr⟩ (proj lo ts Kst Kret)))
    (h : Goes q p r) : CallR P f args H lo (V r) (H1 r) hi ∧ ∃ F, P.funcs[f]? = some F ∧ F.body.isSome = true ∧ (F.name == "runtime.NumGoroutine") = false := by
  have hRet : ∀ x : S ⊕ R, x = .inr r → HR lo hi V H1 (RetR lo hi fun v H' => v = V r ∧ H' = H1 r) x := fun x hx r' hr v' H' fr' h => by
    rw [hx] at hr
    cases hr
    exact h
  have hRet' : ∀ s : S, HR lo hi V H1 (RetR lo hi fun v H' => v = V r ∧ H' = H1 r) (.inl s : S ⊕ R) := fun s r' hr => by cases hr
  have hSt' : ∀ {ι : Type} (I' : ι → Hd) (good below : ι → Prop), HS lo hi I (StopR lo hi I' good below) (.inr r : S ⊕ R) := fun I' good below s hs => by cases hs
  have hL : ∀ i : Nat × S, runs q i.1 i.2 = some r → Lands P E ⟨f, (I i.2).todo, zipT ts (I i.2).V, (I i.2).H, (I i.2).fr⟩ lo hi fun v H' => v = V r ∧ H' = H1 r := by
    refine lands ok hm hX (fun i : Nat × S => I i.2) (fun i => runs q i.1 i.2 = some r) (fun i => i.1) (n := n) (sy := sy) (fun i _ => ⟨(hI i.2).1, (hI i.2).2⟩) fun i hi => ?_
    obtain ⟨k, s⟩ := i
    cases k with
    | zero => cases hi
    | succ k =>
      simp only [runs] at hi
      cases hq : q s with
      | none => rw [hq] at hi; cases hi
      | some x =>
        rw [hq] at hi
        cases x with
        | inl s' =>
          refine (step _ _ (.inl s') (fun s1 hs V' H' fr' ⟨h1, ρ, h2, h3⟩ => ?_) (hRet' s') s hq).get
          cases hs
          exact ⟨h1, (k, s'), ρ, hi, Nat.lt_succ_self k, rfl, h2, h3⟩
        | inr r' =>
          obtain rfl : r' = r := by simpa using hi
          exact (step _ _ (.inr r') (hSt' _ _ _) (hRet _ rfl) s hq).get
  cases hp : p with
  | none => rw [hp] at h; exact h.elim
  | some x =>
    rw [hp] at h
    cases x with
    | inl s =>
      obtain ⟨k, hk⟩ := h
      refine calls_loop ok hm hX (n := n) (sy := sy) (ts := ts) (fun i : Nat × S => I i.2) (fun i => runs q i.1 i.2 = some r) hf hl hN (fun i _ => (hI i.2).2.2.2) ?_ hL
      refine (entry _ _ (.inl s) (fun s1 hs V' H' fr' ⟨h1, ρ, h2, h3⟩ => ?_) (hRet' s) hp).get
      cases hs
      exact ⟨h1, (k, s), ρ, hk, trivial, rfl, h2, h3⟩
    | inr r' =>
      cases h
      refine calls_loop ok hm hX (n := n) (sy := sy) (ts := ts) (fun i : Nat × S => I i.2) (fun i => runs q i.1 i.2 = some r) hf hl hN (fun i _ => (hI i.2).2.2.2) ?_ hL
      exact (entry _ _ (.inr r) (hSt' _ _ _) (hRet _ rfl) hp).get
end

theorem toNat_pred (n : Nat) : ((n : Int) - 1).toNat = n - 1 := by omega
theorem toNat_succ (n : Nat) : ((n : Int) + 1).toNat = n + 1 := by omega
section
variable {P : Program} {E : Env} (ok : EnvOk P E) (hm : P.follows .mixedOrders = true) {X : Ext} (hX : ExtOk P X)
include ok hm hX
/-- The contract of a function that is run through. -/
theorem calls_free {f : FuncId} {fn : FnI} {args : List PV} {H H0 : Heap} {lo hi : Nat} {v0 : PV} {sy : Bool} {n : Nat} (hf : nthFn E.fs f = some fn) (hl : lo ≤ hi) (hne : H ≠ []) (hN : Names H lo)
    (h : Holds (run cond E sy X false n ⟨f, [.cd fn.body], argT 0 args, [] :: H, lo⟩ (proj lo [] (fun _ _ _ _ => False) (RetR lo hi fun v H' => v = v0 ∧ H' = H0)))) : CallR P f args H lo v0 H0 hi ∧ ∃ F, P.funcs[f]? = some F ∧ F.body.isSome = true ∧ (F.name == "runtime.NumGoroutine") = false := by
  refine calls_lands' ok hf hl ?_
  intro σ w a b cs ha hs hn hb hbk
  obtain ⟨l, hl', hok⟩ := run_ok ok hX (drawn_ok ok hm) n false ⟨f, [.cd fn.body], argT 0 args, [] :: H, lo⟩ _ (by intro i hi; simp at hi; subst hi; trivial) (by simp) (fun n e hn => hN n e (by simpa [hget, lget] using hn)) h.get
  cases l with
  | stop j c' => exact hl'.elim
  | ret v' H' fr' =>
    obtain ⟨hf', ρ, v, H2, hR, hv, hH⟩ := hl'
    have hH := hH.untrim
    obtain ⟨hgr, hrun⟩ := hok
    obtain ⟨σ', w', u, fm, q1, q2, q3, q4⟩ := hrun σ w a b cs ha hs (hn.cut hf') hb hbk
    have htr := Ren.tr ⟨lo, hi, hi, ρ⟩ σ'
    have hfresh : ∀ m, fr' ≤ m ∧ m < hi → σ' m = none := fun m hm => by
      have := hgr.1
      simp only at this
      rw [q4.ext m (by show m < lo ∨ fr' ≤ m; omega)]
      exact hn m (by show lo ≤ m; omega) hm.2
    refine ⟨Ren.sg ⟨lo, hi, hi, ρ⟩ σ', w', u, fm, v, H2, q1, q2, q3, hR, hv σ' _ u htr q4.v, hH.sim htr hfresh q4.sim, fun m hm => ?_, q4.frm.mono (fun _ h => h) fun k hk => hH.own htr hfresh hk⟩
    unfold Ren.sg
    rw [if_pos hm]
    have := hgr.1
    simp only at this
    exact q4.ext m (by show m < lo ∨ fr' ≤ m; omega)
/-- A function without arguments that is run through and answers true. -/
theorem awake_ok {f : FuncId} {fn : FnI} {hi n : Nat} {sy : Bool} (hf : nthFn E.fs f = some fn) (h1 : 1 ≤ hi) {fr : Nat} (hfr : Nat.ble fr hi = true)
    (e : ∀ (Kst : KS) (Kret : KR), run cond E sy X false n ⟨f, [.cd fn.body], [], [[], []], 0⟩ (proj 0 [] Kst Kret) = Kret (.tf true) [[]] fr) : Con.ok P ⟨f, [], fun _ => true, fun _ => .bool true, fun _ => [], fun _ _ => .dead⟩ := fun x _ => by
  obtain ⟨h2, h3⟩ := calls_free (args := []) (H := [[]]) (H0 := [[]]) (lo := 0) (hi := hi) (v0 := .bool true) (sy := sy) (n := n) ok hm hX hf (Nat.zero_le _) (by simp) (names_of rfl)
    (Holds.eq (e _ _) (ret_intro id _ _ ⟨rfl, rfl⟩ hfr (rn_bool_tf rfl) rfl entl_nil))
  exact ⟨⟨hi, h1, h2⟩, h3⟩
end
/-! Lists. -/
namespace S
/-- The first n values of a function. -/
def mkl {α : Type} (n : Nat) (f : Nat → α) : List α := (List.range n).map f
def at' {α : Type} [Inhabited α] (L : List α) (j : Nat) : α := L.getD j default
def snoc {α : Type} (L : List α) (x : α) : List α := L ++ [x]
end S
section
variable {α β : Type} [Inhabited α]
theorem mkl_len {n : Nat} {f : Nat → α} : (S.mkl n f).length = n := by simp [S.mkl]
theorem at_mkl {n : Nat} {f : Nat → α} {j : Nat} (h : j < n) : S.at' (S.mkl n f) j = f j := by simp [S.mkl, S.at', h]
theorem col_mkl {n : Nat} {f : Nat → α} (p : α → β) {j : Nat} (h : j < (S.mkl n f).length) : p (S.at' (S.mkl n f) j) = p (f j) := by rw [at_mkl (by simpa [S.mkl] using h)]
theorem mkl_at (L : List α) : S.mkl L.length (S.at' L) = L := by
  apply List.ext_getElem
  · simp [S.mkl]
  · intro i h1 h2; simp [S.mkl, S.at', h2]
theorem at_lt {L : List α} {j : Nat} (h : j < L.length) : S.at' L j = L[j] := by simp [S.at', h]
theorem snoc_len {L : List α} {x : α} : (S.snoc L x).length = L.length + 1 := by simp [S.snoc]
theorem col_snoc {L : List α} {x : α} (p : α → β) (j : Nat) (h : j < (S.snoc L x).length) : p (S.at' (S.snoc L x) j) = joinf L.length (fun j => p (S.at' L j)) (fun _ => p x) j := by
  unfold joinf
  cases hb : Nat.blt j L.length with
  | true =>
    have : j < L.length := lt_ok hb
    simp only [cond_true]
    rw [S.snoc, S.at', List.getD_eq_getElem?_getD, List.getElem?_append_left this]
    simp [S.at']
  | false =>
    have h1 : ¬ j < L.length := fun h => by rw [show Nat.blt j L.length = true by simpa [Nat.blt_eq] using h] at hb; cases hb
    rw [snoc_len] at h
    have : j = L.length := by omega
    subst this
    simp [S.snoc, S.at']
theorem mkl_congr {n : Nat} {f g : Nat → α} (h : ∀ j, j < n → f j = g j) : S.mkl n f = S.mkl n g := by
  unfold S.mkl
  exact List.map_congr_left fun j hj => h j (List.mem_range.1 hj)
theorem mkl_eq {n : Nat} {f : Nat → α} {L : List α} (hn : n = L.length) (h : ∀ j, j < n → f j = S.at' L j) : S.mkl n f = L := by
  subst hn; rw [mkl_congr h, mkl_at]
theorem mkl_inj {n m : Nat} {f g : Nat → α} : S.mkl n f = S.mkl m g ↔ n = m ∧ ∀ j, j < n → f j = g j := by
  constructor
  · intro h
    have hl := congrArg List.length h
    rw [mkl_len, mkl_len] at hl
    refine ⟨hl, fun j hj => ?_⟩
    rw [← at_mkl (f := f) hj, h, at_mkl (by omega)]
  · rintro ⟨rfl, h⟩; exact mkl_congr h
end
theorem rb_lit {r : Mp} {n : Nat} {cs : List Col} {l : List PV} (h : ∀ j, j < n → ∀ i, i < lenc cs → ∃ v', nth l (j * lenc cs + i) = some v' ∧ Rn r (colsAt cs j i) v') : Rb r (.cols n cs) (.cells l) := rb_cells_cols fun j i hj hi => h j hj i hi
theorem entl_b {r : Mp} {fresh : Nat → Prop} {H' : Heap} {k : Nat} {blk blk' : Blk} {l : Lvl} (hu : r.use k) (hg : hget H' (r.nm k) = some (true, blk')) (hd : blk' ≠ .dead) (h : Rb r blk blk') (hl : EntL r fresh H' l) : EntL r fresh H' ((k, true, blk) :: l) :=
  entl_blk hu hg hd id h hl
section
variable {α β : Type} [Inhabited α]
theorem snoc_len' {L : List α} {x : α} {n : Nat} (h : L.length = n) : (S.snoc L x).length = n + 1 := by rw [snoc_len, h]
theorem col_snoc' {L : List α} {x : α} (p : α → β) {n : Nat} (hn : L.length = n) {f : Nat → β} (hf : ∀ j, j < L.length → p (S.at' L j) = f j) (j : Nat) (h : j < (S.snoc L x).length) : p (S.at' (S.snoc L x) j) = cond (Nat.blt j n) (f j) (p x) := by
  subst hn
  rw [col_snoc p j h]
  unfold joinf
  cases hb : Nat.blt j L.length with
  | true => exact hf j (lt_ok hb)
  | false => rfl
end
section
variable {α β γ δ ε ζ : Type} [Inhabited α] [Inhabited β] [Inhabited γ] [Inhabited δ] [Inhabited ε] [Inhabited ζ]
theorem mkl1_at (L : List α) : (S.mkl L.length fun j => S.at' L j) = L := mkl_at L
theorem mkl2_at (L : List (α × β)) : (S.mkl L.length fun j => ((S.at' L j).1, (S.at' L j).2)) = L := mkl_at L
theorem mkl3_at (L : List (α × β × γ)) : (S.mkl L.length fun j => ((S.at' L j).1, (S.at' L j).2.1, (S.at' L j).2.2)) = L := mkl_at L
theorem mkl4_at (L : List (α × β × γ × δ)) : (S.mkl L.length fun j => ((S.at' L j).1, (S.at' L j).2.1, (S.at' L j).2.2.1, (S.at' L j).2.2.2)) = L := mkl_at L
theorem mkl5_at (L : List (α × β × γ × δ × ε)) : (S.mkl L.length fun j => ((S.at' L j).1, (S.at' L j).2.1, (S.at' L j).2.2.1, (S.at' L j).2.2.2.1, (S.at' L j).2.2.2.2)) = L := mkl_at L
theorem mkl6_at (L : List (α × β × γ × δ × ε × ζ)) : (S.mkl L.length fun j => ((S.at' L j).1, (S.at' L j).2.1, (S.at' L j).2.2.1, (S.at' L j).2.2.2.1, (S.at' L j).2.2.2.2.1, (S.at' L j).2.2.2.2.2)) = L := mkl_at L
omit [Inhabited α] in
theorem mkl_zero {f : Nat → α} : S.mkl 0 f = [] := rfl
omit [Inhabited α] in
theorem mkl_succ {n : Nat} {f : Nat → α} : S.mkl (n + 1) f = S.snoc (S.mkl n f) (f n) := by simp [S.mkl, S.snoc, List.range_succ]
theorem at_snoc_lt {L : List α} {x : α} {j : Nat} (h : j < L.length) : S.at' (S.snoc L x) j = S.at' L j := by
  rw [S.snoc, S.at', List.getD_eq_getElem?_getD, List.getElem?_append_left h]; simp [S.at']
theorem at_snoc_eq {L : List α} {x : α} : S.at' (S.snoc L x) L.length = x := by simp [S.at', S.snoc]
end
/-- Cells that are only read. -/
def plainP : List PV → Bool
  | [] => true
  | .int _ _ :: l => plainP l
  | .bool _ :: l => plainP l
  | .tf _ :: l => plainP l
  | .str _ :: l => plainP l
  | _ :: _ => false
theorem rns_plain {r : Mp} : ∀ {l : List PV}, plainP l = true → Rns r l l
  | [], _ => trivial
  | .int _ _ :: l, h => ⟨rn_int rfl, rns_plain (l := l) h⟩
  | .bool _ :: l, h => ⟨rn_bool rfl, rns_plain (l := l) h⟩
  | .tf _ :: l, h => ⟨rn_tf rfl, rns_plain (l := l) h⟩
  | .str _ :: l, h => ⟨rn_str rfl, rns_plain (l := l) h⟩
theorem entl_borc {r : Mp} {fresh : Nat → Prop} {H' : Heap} {k : Nat} {cs : List PV} {l : Lvl} (hu : r.use k) (hg : hget H' (r.nm k) = some (false, .cells cs)) (h : plainP cs = true) (hl : EntL r fresh H' l) : EntL r fresh H' ((k, false, .cells cs) :: l) :=
  entl_blk hu hg (by simp) id (rb_cells (rns_plain h)) hl
theorem entl_dead {r : Mp} {fresh : Nat → Prop} {H' : Heap} {k : Nat} {b : Bool} {l : Lvl} (hl : EntL r fresh H' l) : EntL r fresh H' ((k, b, .dead) :: l) := ⟨.inl rfl, hl⟩
theorem of_dec {p : Prop} {d : Decidable p} {b : Bool} (h : b = true) (e : b = @decide p d) : p := by
  subst e; exact @of_decide_eq_true p d h
end Go.Ev
