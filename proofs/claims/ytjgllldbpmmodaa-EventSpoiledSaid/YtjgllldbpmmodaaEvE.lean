/-
  A region that draws its order: the states of its runs.
-/
import Derived.Test.YtjgllldbpmmodaaEvD
import Derived.Orders
namespace Go.Ev
open Go.RowKit
set_option linter.unusedSimpArgs false
set_option linter.unusedVariables false
set_option linter.unusedSectionVars false

section
variable (P : Program) (E : Env) (f : FuncId) (T : Tmps) (H : Heap) (fr0 : Nat) (all : List Oper)

def WantIs (o : Oper) (T' : Tmps) (b : Bool) : Prop := ∀ (σ : Sg) (a : Act), (∀ t ∈ o.looksAt all.toArray, VR σ (tget T' t) (a.tmps.getD t undef)) → Region.wanted o (yielded all.toArray a.tmps) = b

theorem pickH_get {H : Heap} : ∀ {l : List Nat} {n : Nat} {e : Bool × Blk}, lget (pickH H l) n = some e → hget H n = some e
  | [], n, e, h => by cases h
  | m :: l, n, e, h => by
    simp only [pickH] at h
    split at h
    · rename_i e' he
      simp only [lget] at h
      split at h
      · rename_i hb
        have := Nat.eq_of_beq_eq_true hb
        subst this
        rw [he]
        exact h
      · exact pickH_get h
    · exact pickH_get h
theorem tlD_get {dr : Bool} {see : List Nat} {l : Lvl} {H : Heap} {x : Nat} {e : Bool × Blk} (h : hget (tlD dr see l H) x = some e) : dr = false ∧ hget (l :: H) x = some e := by
  cases dr with
  | true => simp [tlD, Ev.hget] at h
  | false =>
    refine ⟨rfl, ?_⟩
    simp only [tlD, hget_cons] at h
    cases hq : lget (pickH (l :: H) see) x with
    | some e' => rw [hq] at h; cases h; exact pickH_get hq
    | none => rw [hq] at h; cases h
structure RecOk (rs : List Rec) (r : Rec) : Prop where
  ho : all[rs.length]? = some r.o
  hm : r.m = maskOf (masks rs) r.o.after.toList
  edge : ∀ e ∈ r.o.after.toList, Region.binds .any e = true → e.on < rs.length
  dst : r.d.dst = r.o.dst
  fits : fits E f r.o.dst = true
  fr : r.fr = frOf fr0 rs
  le : r.fr ≤ r.fr'
  view : r.d.view = tlD r.d.dry r.d.see (selL (bitOf r.m) rs) H
  apart : ∀ j s, dn rs j = some s → bitOf r.m j = false → apartM r.d s.d = true ∧ ∃ o', all[j]? = some o' ∧ Oper.apart all.toArray o' r.o = true
  done : (WantIs all r.o (selT (bitOf r.m) T rs) true ∧ Grow ([] :: tlD r.d.dry r.d.see (selL (bitOf r.m) rs) H) (r.d.l :: tlD r.d.dry r.d.see (selL (bitOf r.m) rs) H) r.fr r.fr' ∧ OpR P r.o (selT (bitOf r.m) T rs) ([] :: tlD r.d.dry r.d.see (selL (bitOf r.m) rs) H) r.fr r.d.v (r.d.l :: tlD r.d.dry r.d.see (selL (bitOf r.m) rs) H) r.fr' ∧ r.d.writes = oldIn r.fr r.d.l) ∨
    (WantIs all r.o (selT (bitOf r.m) T rs) false ∧ r.d.l = [] ∧ r.d.v = .tup [] ∧ r.d.writes = false)

inductive Good : List Rec → Prop
  | nil : Good []
  | cons {rs : List Rec} {r : Rec} (h : Good rs) (hr : RecOk P E f T H fr0 all rs r) : Good (r :: rs)
end

section
variable {P : Program} {E : Env} {f : FuncId} {T : Tmps} {H : Heap} {fr0 : Nat} {all : List Oper}

theorem guarded_look {o : Oper} {T' : Tmps} {yes no : Prop} (h : guarded cond o.guard all T' yes no) : (yes ∧ WantIs all o T' true) ∨ (no ∧ WantIs all o T' false) := by
  unfold guarded at h
  unfold WantIs Region.wanted
  split at h
  · rename_i hg
    rw [hg]
    exact .inl ⟨h, fun _ _ _ => rfl⟩
  · rename_i j want hg
    rw [hg]
    split at h
    · rename_i oj hj
      split at h
      · rename_i tj ht
        split at h
        · rename_i b hb
          have h2 : all.toArray[j]? = some oj := by simpa using opAt_get hj
          have hl : tj ∈ o.looksAt all.toArray := by
            unfold Oper.looksAt
            rw [hg]
            simp only [h2, Option.bind_some, ht]
            exact List.mem_append_right _ (by simp)
          have hy : ∀ (σ : Sg) (a : Act), (∀ t ∈ o.looksAt all.toArray, VR σ (tget T' t) (a.tmps.getD t undef)) → yielded all.toArray a.tmps j = some b := fun σ a ha => by
            have h1 := ha tj hl
            rw [hb] at h1
            unfold yielded
            rw [h2]
            simp only [Option.bind_some, ht]
            generalize hq : a.tmps.getD tj undef = q at h1
            cases h1
            cases ht2 : a.tmps[tj]? with
            | none => simp [ht2, undef] at hq
            | some x =>
              simp [ht2] at hq
              subst hq
              rfl
          cases hbw : b == want with
          | true =>
            rw [hbw] at h
            refine .inl ⟨h, fun σ a ha => ?_⟩
            simp only [hy σ a ha]
            simpa using hbw
          | false =>
            rw [hbw] at h
            refine .inr ⟨h, fun σ a ha => ?_⟩
            simp only [hy σ a ha]
            simpa using hbw
        · rename_i b hb
          have h2 : all.toArray[j]? = some oj := by simpa using opAt_get hj
          have hl : tj ∈ o.looksAt all.toArray := by
            unfold Oper.looksAt
            rw [hg]
            simp only [h2, Option.bind_some, ht]
            exact List.mem_append_right _ (by simp)
          have hy : ∀ (σ : Sg) (a : Act), (∀ t ∈ o.looksAt all.toArray, VR σ (tget T' t) (a.tmps.getD t undef)) → yielded all.toArray a.tmps j = some b := fun σ a ha => by
            have h1 := ha tj hl
            rw [hb] at h1
            unfold yielded
            rw [h2]
            simp only [Option.bind_some, ht]
            generalize hq : a.tmps.getD tj undef = q at h1
            cases h1
            cases ht2 : a.tmps[tj]? with
            | none => simp [ht2, undef] at hq
            | some x =>
              simp [ht2] at hq
              subst hq
              rfl
          cases b <;> cases want
          · exact .inl ⟨h, fun σ a ha => by simp [hy σ a ha]⟩
          · exact .inr ⟨h, fun σ a ha => by simp [hy σ a ha]⟩
          · exact .inr ⟨h, fun σ a ha => by simp [hy σ a ha]⟩
          · exact .inl ⟨h, fun σ a ha => by simp [hy σ a ha]⟩
        · rename_i l hb
          have h2 : all.toArray[j]? = some oj := by simpa using opAt_get hj
          have hl : tj ∈ o.looksAt all.toArray := by
            unfold Oper.looksAt
            rw [hg]
            simp only [h2, Option.bind_some, ht]
            exact List.mem_append_right _ (by simp)
          have hy : ∀ (σ : Sg) (a : Act), (∀ t ∈ o.looksAt all.toArray, VR σ (tget T' t) (a.tmps.getD t undef)) → yielded all.toArray a.tmps j = none := fun σ a ha => by
            have h1 := ha tj hl
            rw [hb] at h1
            unfold yielded
            rw [h2]
            simp only [Option.bind_some, ht]
            generalize hq : a.tmps.getD tj undef = q at h1
            cases h1
            cases ht2 : a.tmps[tj]? with
            | none => rfl
            | some x =>
              simp [ht2] at hq
              subst hq
              rfl
          exact .inr ⟨h, fun σ a ha => by simp [hy σ a ha]⟩
        · exact h.elim
      · exact h.elim
    · exact h.elim

theorem frOf_le {rs : List Rec} (h : Good P E f T H fr0 all rs) : fr0 ≤ frOf fr0 rs := by
  induction h with
  | nil => exact Nat.le_refl _
  | cons h hr ih => exact Nat.le_trans ih (Nat.le_trans (Nat.le_of_eq hr.fr.symm) hr.le)

theorem In.mem {l : Lvl} {x : Nat} (h : In l x) : ∃ e, (x, e) ∈ l := let ⟨e, he⟩ := h; ⟨e, lget_mem he⟩
theorem In.of {l : Lvl} {p : Nat × Bool × Blk} (h : p ∈ l) : In l p.1 := lget_some h
theorem rec_lvl {rs : List Rec} {r : Rec} (hr : RecOk P E f T H fr0 all rs r) : ∀ p ∈ r.d.l, p.1 < r.fr' ∧ (p.2.1 = true ∨ p.2.2 = .dead) := by
  rcases hr.done with ⟨_, h, _⟩ | ⟨_, h, _⟩
  · obtain ⟨_, ⟨l0, e, h3⟩, _⟩ := h
    have e1 := e [] _ rfl
    simp only [List.append_nil, List.cons.injEq] at e1
    rw [e1.1]
    exact h3
  · rw [h]; intro p hp; cases hp
/-- What the list says of each of its operations. -/
theorem good_at {rs : List Rec} (h : Good P E f T H fr0 all rs) {i : Nat} {r : Rec} (hi : dn rs i = some r) : ∃ rs1 rs2, rs = rs2 ++ r :: rs1 ∧ rs1.length = i ∧ RecOk P E f T H fr0 all rs1 r ∧ Good P E f T H fr0 all rs1 ∧ r.fr' ≤ frOf fr0 rs ∧ fr0 ≤ r.fr := by
  induction h with
  | nil => simp [dn] at hi
  | @cons rs s h hr ih =>
    simp only [dn] at hi
    split at hi
    · rename_i e
      cases hi
      exact ⟨rs, [], rfl, e.symm, hr, h, Nat.le_refl _, by rw [hr.fr]; exact frOf_le h⟩
    · obtain ⟨rs1, rs2, e1, e2, e3, e4, e5, e6⟩ := ih hi
      exact ⟨rs1, s :: rs2, by rw [e1]; rfl, e2, e3, e4, Nat.le_trans e5 (by rw [← hr.fr]; exact hr.le), e6⟩
theorem good_lt {rs : List Rec} (h : Good P E f T H fr0 all rs) {j : Nat} {s : Rec} {x : Nat} (hj : dn rs j = some s) (hx : In s.d.l x) : x < s.fr' ∧ s.fr' ≤ frOf fr0 rs := by
  obtain ⟨rs1, rs2, e1, e2, e3, e4, e5, _⟩ := good_at h hj
  obtain ⟨e, he⟩ := hx.mem
  exact ⟨(rec_lvl e3 _ he).1, e5⟩

/-- From the reckoner's answer to the list of what each operation has left. -/
theorem drawn_good {sy : Bool} {Y : Handler} (ok : EnvOk P E) (hY : HandOk P Y) (hN : Names H fr0) : ∀ (rest : List Oper) (rs : List Rec) (K : Tmps → Heap → Nat → Prop), Good P E f T H fr0 all rs → (∃ p, all = p ++ rest ∧ p.length = rs.length) →
    drawn cond E sy Y f T H all rest (masks rs) (dones rs) rs.length (frOf fr0 rs) K → ∃ rs', Good P E f T H fr0 all rs' ∧ rs'.length = all.length ∧ K (selT (fun _ => true) T rs') (hmerge (selL (fun _ => true) rs') H) (frOf fr0 rs')
  | [], rs, K, hg, ⟨p, hp, hl⟩, h => by
    simp only [drawn] at h
    rw [allT_eq, allL_eq] at h
    exact ⟨rs, hg, by rw [← hl, hp]; simp, h⟩
  | o :: rest, rs, K, hg, ⟨p, hp, hl⟩, h => by
    simp only [drawn] at h
    split at h
    · rename_i g1 g2 g3
      rw [knownT_eq, knownL_eq] at h
      have hget : all[rs.length]? = some o := by rw [hp, ← hl]; simp
      have hmask : ∀ (r : Rec), masks (r :: rs) = masks rs ++ [r.m] := fun r => by simp [masks]
      have hdone : ∀ (r : Rec), dones (r :: rs) = r.d :: dones rs := fun r => rfl
      have hnext : ∃ q, all = q ++ rest ∧ q.length = rs.length + 1 := ⟨p ++ [o], by simp [hp], by simp [hl]⟩
      rcases guarded_look h with ⟨h, hw⟩ | ⟨h, hw⟩
      · have hN' : Names ([] :: tlD (dry o.op) (seeOf (selT (bitOf (maskOf (masks rs) o.after.toList)) T rs) (selL (bitOf (maskOf (masks rs) o.after.toList)) rs) H o.op) (selL (bitOf (maskOf (masks rs) o.after.toList)) rs) H) (frOf fr0 rs) := by
          intro n e hn
          simp only [hget_cons, lget] at hn
          obtain ⟨_, hn⟩ := tlD_get hn
          rw [hget_cons] at hn
          cases hs : lget (selL (bitOf (maskOf (masks rs) o.after.toList)) rs) n with
          | none => rw [hs] at hn; exact Nat.lt_of_lt_of_le (hN n e hn) (frOf_le hg)
          | some e' =>
            obtain ⟨j, s, hj, hp', hi⟩ := In.sel ⟨e', hs⟩
            obtain ⟨q1, q2⟩ := good_lt hg hj hi
            omega
        obtain ⟨v, H', fr', hk, hgr, hop⟩ := opx_ok ok hY (by simp) hN' h
        obtain ⟨l, _, e1⟩ : ∃ l, True ∧ H' = l :: tlD (dry o.op) (seeOf (selT (bitOf (maskOf (masks rs) o.after.toList)) T rs) (selL (bitOf (maskOf (masks rs) o.after.toList)) rs) H o.op) (selL (bitOf (maskOf (masks rs) o.after.toList)) rs) H := by
          obtain ⟨l0, e, _⟩ := hgr.lvl
          exact ⟨_, trivial, e [] _ rfl⟩
        subst e1
        simp only at hk
        split at hk
        · rename_i hap
          let r : Rec := ⟨o, maskOf (masks rs) o.after.toList, ⟨o.dst, v, l, dry o.op, oldIn (frOf fr0 rs) l, tlD (dry o.op) (seeOf (selT (bitOf (maskOf (masks rs) o.after.toList)) T rs) (selL (bitOf (maskOf (masks rs) o.after.toList)) rs) H o.op) (selL (bitOf (maskOf (masks rs) o.after.toList)) rs) H, (seeOf (selT (bitOf (maskOf (masks rs) o.after.toList)) T rs) (selL (bitOf (maskOf (masks rs) o.after.toList)) rs) H o.op)⟩, frOf fr0 rs, fr'⟩
          exact drawn_good ok hY hN rest (r :: rs) K (.cons hg ⟨hget, rfl, edgesOk_spec g3, rfl, g2, rfl, hgr.le, rfl, apartOk_spec hap, .inl ⟨hw, hgr, hop, rfl⟩⟩) (by simpa using hnext) (by rw [hmask, hdone]; exact hk)
        · exact hk.elim
      · split at h
        · rename_i hap
          let r : Rec := ⟨o, maskOf (masks rs) o.after.toList, ⟨o.dst, .tup [], [], true, false, [], []⟩, frOf fr0 rs, frOf fr0 rs⟩
          exact drawn_good ok hY hN rest (r :: rs) K (.cons hg ⟨hget, rfl, edgesOk_spec g3, rfl, g2, rfl, Nat.le_refl _, rfl, apartOk_spec hap, .inr ⟨hw, rfl, rfl, rfl⟩⟩) (by simpa using hnext) (by rw [hmask, hdone]; exact h)
        · exact h.elim
    · exact h.elim
end
end Go.Ev
