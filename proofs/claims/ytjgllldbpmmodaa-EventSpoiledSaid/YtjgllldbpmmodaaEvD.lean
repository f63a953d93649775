/-
  A region that draws its order: whatever the order, the reckoner's answer.
-/
import Derived.Test.YtjgllldbpmmodaaEvM
namespace Go.Ev
open Go.RowKit
set_option linter.unusedSimpArgs false
set_option linter.unusedVariables false
set_option linter.unusedSectionVars false

structure Rec where
  o : Oper
  m : Nat
  d : Done
  fr : Nat
  fr' : Nat

def dn : List Rec → Nat → Option Rec
  | [], _ => none
  | r :: rs, j => if j = rs.length then some r else dn rs j
def selT (p : Nat → Bool) (T : Tmps) : List Rec → Tmps
  | [] => T
  | r :: rs => match p rs.length, r.d.dst with
    | true, some t => (t, r.d.v) :: selT p T rs
    | _, _ => selT p T rs
def selL (p : Nat → Bool) : List Rec → Lvl
  | [] => []
  | r :: rs => match p rs.length with
    | true => r.d.l ++ selL p rs
    | false => selL p rs
def masks (rs : List Rec) : List Nat := (rs.map (·.m)).reverse
def frOf (fr0 : Nat) : List Rec → Nat
  | [] => fr0
  | r :: _ => r.fr'
def dones (rs : List Rec) : List Done := rs.map (·.d)

theorem dn_lt : ∀ {rs : List Rec} {i : Nat} {r : Rec}, dn rs i = some r → i < rs.length
  | [], i, r, h => by simp [dn] at h
  | s :: rs, i, r, h => by
    simp only [dn] at h
    split at h
    · rename_i e; subst e; simp
    · have := dn_lt h; simp; omega
theorem dn_some : ∀ {rs : List Rec} {i : Nat}, i < rs.length → ∃ r, dn rs i = some r
  | [], i, h => by simp at h
  | s :: rs, i, h => by
    simp only [dn]
    split
    · exact ⟨_, rfl⟩
    · rename_i e
      exact dn_some (by simp at h; omega)
theorem knownT_eq (m : Nat) (T : Tmps) : ∀ rs : List Rec, knownT m T (dones rs) rs.length = selT (bitOf m) T rs
  | [] => rfl
  | r :: rs => by
    simp only [dones, List.map_cons, List.length_cons, knownT, selT, Nat.add_sub_cancel]
    have := knownT_eq m T rs
    simp only [dones] at this
    rw [this]
    cases bitOf m rs.length <;> cases r.d.dst <;> rfl
theorem knownL_eq (m : Nat) : ∀ rs : List Rec, knownL m (dones rs) rs.length = selL (bitOf m) rs
  | [] => rfl
  | r :: rs => by
    simp only [dones, List.map_cons, List.length_cons, knownL, selL, Nat.add_sub_cancel]
    have := knownL_eq m rs
    simp only [dones] at this
    rw [this]
    cases bitOf m rs.length <;> rfl
theorem allT_eq (T : Tmps) : ∀ rs : List Rec, allT T (dones rs) = selT (fun _ => true) T rs
  | [] => rfl
  | r :: rs => by
    simp only [dones, List.map_cons, allT, selT]
    have := allT_eq T rs
    simp only [dones] at this
    rw [this]
    cases r.d.dst <;> rfl
theorem allL_eq : ∀ rs : List Rec, allL (dones rs) = selL (fun _ => true) rs
  | [] => rfl
  | r :: rs => by
    simp only [dones, List.map_cons, allL, selL]
    have := allL_eq rs
    simp only [dones] at this
    rw [this]
theorem selT_congr {p q : Nat → Bool} (T : Tmps) : ∀ {rs : List Rec}, (∀ i, i < rs.length → p i = q i) → selT p T rs = selT q T rs
  | [], _ => rfl
  | r :: rs, h => by
    simp only [selT]
    rw [h rs.length (by simp), selT_congr T fun i hi => h i (by simp; omega)]
theorem selL_congr {p q : Nat → Bool} : ∀ {rs : List Rec}, (∀ i, i < rs.length → p i = q i) → selL p rs = selL q rs
  | [], _ => rfl
  | r :: rs, h => by
    simp only [selL]
    rw [h rs.length (by simp), selL_congr fun i hi => h i (by simp; omega)]
/-- Only those of the first i. -/
def upto (p : Nat → Bool) (i : Nat) : Nat → Bool := fun j => p j && decide (j < i)
theorem selT_split {rs1 : List Rec} (p : Nat → Bool) (T : Tmps) : ∀ rs2 : List Rec, selT (upto p rs1.length) T (rs2 ++ rs1) = selT p T rs1
  | [] => selT_congr T fun i hi => by simp at hi; simp [upto, hi]
  | r :: rs2 => by
    simp only [List.cons_append, selT]
    have : upto p rs1.length (rs2 ++ rs1).length = false := by simp [upto]
    rw [this, selT_split p T rs2]
theorem selL_split {rs1 : List Rec} (p : Nat → Bool) : ∀ rs2 : List Rec, selL (upto p rs1.length) (rs2 ++ rs1) = selL p rs1
  | [] => selL_congr fun i hi => by simp at hi; simp [upto, hi]
  | r :: rs2 => by
    simp only [List.cons_append, selL]
    have : upto p rs1.length (rs2 ++ rs1).length = false := by simp [upto]
    rw [this, selL_split p rs2]
theorem dn_split : ∀ {rs : List Rec} {i : Nat} {r : Rec}, dn rs i = some r → ∃ rs1 rs2, rs = rs2 ++ r :: rs1 ∧ rs1.length = i
  | [], i, r, h => by simp [dn] at h
  | s :: rs, i, r, h => by
    simp only [dn] at h
    split at h
    · rename_i e; cases h; exact ⟨rs, [], rfl, e.symm⟩
    · obtain ⟨rs1, rs2, e1, e2⟩ := dn_split h
      exact ⟨rs1, s :: rs2, by rw [e1]; rfl, e2⟩
theorem dn_app {rs1 : List Rec} {i : Nat} (hi : i < rs1.length) : ∀ rs2 : List Rec, dn (rs2 ++ rs1) i = dn rs1 i
  | [] => rfl
  | r :: rs2 => by
    simp only [List.cons_append, dn]
    rw [if_neg (by simp; omega), dn_app hi rs2]
theorem masks_get : ∀ {rs : List Rec} {i : Nat} {r : Rec}, dn rs i = some r → (masks rs).getD i 0 = r.m
  | [], i, r, h => by simp [dn] at h
  | s :: rs, i, r, h => by
    simp only [dn] at h
    simp only [masks, List.map_cons, List.reverse_cons]
    split at h
    · rename_i e
      cases h
      subst e
      simp [List.getD, List.getElem?_append]
    · have hl := dn_lt h
      have := masks_get h
      simp only [masks] at this
      rw [← this]
      simp [List.getD, List.getElem?_append, hl]

theorem bitOf_test (m i : Nat) : bitOf m i = m.testBit i := by
  unfold bitOf
  rw [Nat.testBit_eq_decide_div_mod_eq]
  show Nat.beq (m >>> i % 2) 1 = _
  rw [Nat.shiftRight_eq_div_pow]
  cases h : Nat.beq (m / 2 ^ i % 2) 1
  · symm
    simp only [decide_eq_false_iff_not]
    intro e
    rw [e] at h
    cases h
  · symm
    simp only [decide_eq_true_eq]
    exact Nat.eq_of_beq_eq_true h
theorem bit_mask {ms : List Nat} {j : Nat} : ∀ {l : List Edge}, bitOf (maskOf ms l) j = true ↔ ∃ e ∈ l, Region.binds .any e = true ∧ (j = e.on ∨ bitOf (ms.getD e.on 0) j = true)
  | [] => by simp [maskOf, bitOf_test]
  | e :: l => by
    have ih := bit_mask (ms := ms) (j := j) (l := l)
    simp only [maskOf]
    cases hb : Region.binds .any e with
    | false =>
      simp only [ih, List.mem_cons]
      constructor
      · rintro ⟨x, h1, h2⟩; exact ⟨x, .inr h1, h2⟩
      · rintro ⟨x, rfl | h1, h2⟩
        · rw [hb] at h2; cases h2.1
        · exact ⟨x, h1, h2⟩
    | true =>
      have e1 : bitOf (Nat.lor (Nat.lor (Nat.shiftLeft 1 e.on) (ms.getD e.on 0)) (maskOf ms l)) j = ((decide (e.on = j) || bitOf (ms.getD e.on 0) j) || bitOf (maskOf ms l) j) := by
        simp only [bitOf_test]
        show ((1 <<< e.on ||| ms.getD e.on 0) ||| maskOf ms l).testBit j = _
        rw [Nat.testBit_or, Nat.testBit_or, Nat.one_shiftLeft, Nat.testBit_two_pow]
      simp only [e1, Bool.or_eq_true, decide_eq_true_eq, ih, List.mem_cons]
      constructor
      · rintro ((rfl | h) | ⟨x, h1, h2⟩)
        · exact ⟨e, .inl rfl, hb, .inl rfl⟩
        · exact ⟨e, .inl rfl, hb, .inr h⟩
        · exact ⟨x, .inr h1, h2⟩
      · rintro ⟨x, rfl | h1, h2, h3⟩
        · exact .inl (h3.imp Eq.symm id)
        · exact .inr ⟨x, h1, h2, h3⟩
theorem edgesOk_spec {k : Nat} : ∀ {l : List Edge}, edgesOk k l = true → ∀ e ∈ l, Region.binds .any e = true → e.on < k
  | [], _, e, he, _ => by cases he
  | x :: l, h, e, he, hb => by
    simp only [edgesOk] at h
    rcases List.mem_cons.1 he with rfl | he
    · rw [hb] at h
      simp only [Bool.and_eq_true] at h
      simpa [Nat.blt_eq] using h.1
    · cases hx : Region.binds .any x with
      | true =>
        rw [hx] at h
        simp only [Bool.and_eq_true] at h
        exact edgesOk_spec h.2 e he hb
      | false =>
        rw [hx] at h
        exact edgesOk_spec h e he hb
theorem apartOk_spec {o : Oper} {m : Nat} {all : List Oper} {q : Done} : ∀ {rs : List Rec}, apartOk o m all q (dones rs) rs.length = true → ∀ j s, dn rs j = some s → bitOf m j = false →
    apartM q s.d = true ∧ ∃ o', all[j]? = some o' ∧ Oper.apart all.toArray o' o = true
  | [], _, j, s, h, _ => by simp [dn] at h
  | r :: rs, h, j, s, hj, hb => by
    simp only [dones, List.map_cons, List.length_cons, apartOk, Nat.add_sub_cancel] at h
    simp only [dn] at hj
    split at hj
    · rename_i e
      cases hj
      subst e
      rw [hb] at h
      simp only at h
      split at h
      · rename_i ha
        unfold apart1 at ha
        simp only [Bool.and_eq_true] at ha
        refine ⟨ha.1, ?_⟩
        have h2 := ha.2
        split at h2
        · rename_i o' ho'
          exact ⟨o', opAt_get ho', h2⟩
        · cases h2
      · cases h
    · have ih := apartOk_spec (o := o) (m := m) (all := all) (q := q) (rs := rs)
      simp only [dones] at ih
      split at h
      · exact ih h j s hj hb
      · split at h
        · exact ih h j s hj hb
        · cases h
theorem oldIn_spec {fr : Nat} : ∀ {l : Lvl}, oldIn fr l = false → ∀ p ∈ l, fr ≤ p.1
  | [], _, p, hp => by cases hp
  | (n, e) :: l, h, p, hp => by
    simp only [oldIn] at h
    split at h
    · cases h
    · rename_i hn
      rcases List.mem_cons.1 hp with rfl | hp
      · have h1 : ¬ (n < fr) := fun hlt => by
          have h2 : Nat.blt n fr = true := by simpa [Nat.blt_eq] using hlt
          rw [h2] at hn; cases hn
        exact Nat.le_of_not_lt h1
      · exact oldIn_spec h p hp
theorem lget_none {l : Lvl} {n : Nat} (h : lget l n = none) : ∀ p ∈ l, p.1 ≠ n := by
  induction l with
  | nil => intro p hp; cases hp
  | cons q l ih =>
    obtain ⟨k, e⟩ := q
    simp only [lget] at h
    split at h
    · cases h
    · rename_i hb
      intro p hp
      rcases List.mem_cons.1 hp with rfl | hp
      · intro e; simp only at e; subst e; rw [Nat.beq_refl] at hb; cases hb
      · exact ih h p hp
theorem lget_some {l : Lvl} {p : Nat × Bool × Blk} (h : p ∈ l) : ∃ e, lget l p.1 = some e := by
  cases hl : lget l p.1 with
  | some e => exact ⟨e, rfl⟩
  | none => exact absurd rfl (lget_none hl p h)
def In (l : Lvl) (x : Nat) : Prop := ∃ e, lget l x = some e
theorem hget_cons (l : Lvl) (H : Heap) (n : Nat) : hget (l :: H) n = match lget l n with | some e => some e | none => hget H n := rfl
theorem In.app {l m : Lvl} {x : Nat} : In (l ++ m) x ↔ In l x ∨ In m x := by
  unfold In
  simp only [lget_append]
  cases lget l x <;> simp
theorem In.sel {p : Nat → Bool} {x : Nat} : ∀ {rs : List Rec}, In (selL p rs) x → ∃ j s, dn rs j = some s ∧ p j = true ∧ In s.d.l x
  | [], ⟨e, h⟩ => by simp [selL, lget] at h
  | r :: rs, h => by
    simp only [selL] at h
    have up : (∃ j s, dn rs j = some s ∧ p j = true ∧ In s.d.l x) → ∃ j s, dn (r :: rs) j = some s ∧ p j = true ∧ In s.d.l x := fun ⟨j, s, h1, h2⟩ => ⟨j, s, by simp only [dn]; rw [if_neg (Nat.ne_of_lt (dn_lt h1))]; exact h1, h2⟩
    split at h
    · rename_i hp
      rcases In.app.1 h with h | h
      · exact ⟨rs.length, r, by simp [dn], hp, h⟩
      · exact up (In.sel h)
    · exact up (In.sel h)
/-- What the chosen levels say of a name, where one of two choices has more. -/
theorem sel_more {p q : Nat → Bool} {x : Nat} : ∀ {rs : List Rec}, (∀ j s, dn rs j = some s → q j = true → p j = true) → (∀ j s, dn rs j = some s → p j = true → q j = false → ¬ In s.d.l x) → lget (selL p rs) x = lget (selL q rs) x
  | [], _, _ => rfl
  | r :: rs, h1, h2 => by
    have up : ∀ {j s}, dn rs j = some s → dn (r :: rs) j = some s := fun {j s} h => by simp only [dn]; rw [if_neg (Nat.ne_of_lt (dn_lt h))]; exact h
    have ih := sel_more (p := p) (q := q) (x := x) (rs := rs) (fun j s h => h1 j s (up h)) (fun j s h => h2 j s (up h))
    have hd : dn (r :: rs) rs.length = some r := by simp [dn]
    simp only [selL]
    cases hq : q rs.length with
    | true => rw [h1 _ _ hd hq]; simp only [lget_append, ih]
    | false =>
      cases hp : p rs.length with
      | false => exact ih
      | true =>
        simp only [lget_append]
        cases hl : lget r.d.l x with
        | none => exact ih
        | some e => exact absurd ⟨e, hl⟩ (h2 _ _ hd hp hq)
theorem selT_more {p q : Nat → Bool} {T : Tmps} {t : Nat} : ∀ {rs : List Rec}, (∀ j s, dn rs j = some s → q j = true → p j = true) → (∀ j s, dn rs j = some s → p j = true → q j = false → s.d.dst ≠ some t) → tget (selT p T rs) t = tget (selT q T rs) t
  | [], _, _ => rfl
  | r :: rs, h1, h2 => by
    have up : ∀ {j s}, dn rs j = some s → dn (r :: rs) j = some s := fun {j s} h => by simp only [dn]; rw [if_neg (Nat.ne_of_lt (dn_lt h))]; exact h
    have ih := selT_more (p := p) (q := q) (T := T) (t := t) (rs := rs) (fun j s h => h1 j s (up h)) (fun j s h => h2 j s (up h))
    have hd : dn (r :: rs) rs.length = some r := by simp [dn]
    simp only [selT]
    cases hq : q rs.length with
    | true =>
      rw [h1 _ _ hd hq]
      cases hdst : r.d.dst with
      | none => exact ih
      | some u => simp only [tget_cons, ih]
    | false =>
      cases hp : p rs.length with
      | false => exact ih
      | true =>
        cases hdst : r.d.dst with
        | none => exact ih
        | some u =>
          simp only [tget_cons]
          have := h2 _ _ hd hp hq
          rw [hdst] at this
          rw [if_neg (fun e => this (by rw [e])), ih]
/-- One more level, of whose names no later one has any. -/
theorem sel_set {p : Nat → Bool} {i : Nat} {r : Rec} {x : Nat} : ∀ {rs : List Rec}, dn rs i = some r → p i = false → (∀ j s, dn rs j = some s → p j = true → i < j → In r.d.l x → ¬ In s.d.l x) → lget (selL (fun j => if j = i then true else p j) rs) x = match lget r.d.l x with | some e => some e | none => lget (selL p rs) x
  | [], h, _, _ => by simp [dn] at h
  | s :: rs, h, hp, h2 => by
    have up : ∀ {j s'}, dn rs j = some s' → dn (s :: rs) j = some s' := fun {j s'} h => by simp only [dn]; rw [if_neg (Nat.ne_of_lt (dn_lt h))]; exact h
    simp only [dn] at h
    split at h
    · rename_i e
      cases h
      subst e
      have e1 : selL (fun j => if j = rs.length then true else p j) rs = selL p rs := selL_congr fun j hj => by simp [Nat.ne_of_lt hj]
      simp only [selL, if_true, e1, lget_append, hp]
      cases lget r.d.l x <;> rfl
    · rename_i hne
      have hil := dn_lt h
      have ih := sel_set (p := p) (i := i) (x := x) h hp fun j s' hj hpj hij => h2 j s' (up hj) hpj hij
      have hd : dn (s :: rs) rs.length = some s := by simp [dn]
      simp only [selL, if_neg (fun e => hne e.symm : ¬ rs.length = i)]
      cases hpl : p rs.length with
      | false => exact ih
      | true =>
        simp only [lget_append, ih]
        cases h3 : lget s.d.l x with
        | none => rfl
        | some e =>
          cases h4 : lget r.d.l x with
          | none => rfl
          | some e' => exact absurd ⟨e, h3⟩ (h2 _ _ hd hpl hil ⟨e', h4⟩)
theorem selT_set {p : Nat → Bool} {T : Tmps} {i : Nat} {r : Rec} {t : Nat} : ∀ {rs : List Rec}, dn rs i = some r → p i = false → (∀ j s, dn rs j = some s → p j = true → i < j → r.d.dst = some t → s.d.dst ≠ some t) → tget (selT (fun j => if j = i then true else p j) T rs) t = if r.d.dst = some t then r.d.v else tget (selT p T rs) t
  | [], h, _, _ => by simp [dn] at h
  | s :: rs, h, hp, h2 => by
    have up : ∀ {j s'}, dn rs j = some s' → dn (s :: rs) j = some s' := fun {j s'} h => by simp only [dn]; rw [if_neg (Nat.ne_of_lt (dn_lt h))]; exact h
    simp only [dn] at h
    split at h
    · rename_i e
      cases h
      subst e
      have e1 : selT (fun j => if j = rs.length then true else p j) T rs = selT p T rs := selT_congr T fun j hj => by simp [Nat.ne_of_lt hj]
      simp only [selT, if_true, e1, hp]
      cases hd : r.d.dst with
      | none => simp
      | some u => simp only [tget_cons, Option.some.injEq]
    · rename_i hne
      have hil := dn_lt h
      have ih := selT_set (p := p) (T := T) (i := i) (t := t) h hp fun j s' hj hpj hij => h2 j s' (up hj) hpj hij
      have hd : dn (s :: rs) rs.length = some s := by simp [dn]
      simp only [selT, if_neg (fun e => hne e.symm : ¬ rs.length = i)]
      cases hpl : p rs.length with
      | false => exact ih
      | true =>
        cases h3 : s.d.dst with
        | none => exact ih
        | some u =>
          simp only [tget_cons, ih]
          by_cases h4 : r.d.dst = some t
          · have := h2 _ _ hd hpl hil h4
            rw [h3] at this
            have hu : u ≠ t := fun e => this (by rw [e])
            simp [h4, hu]
          · simp [h4]
end Go.Ev
