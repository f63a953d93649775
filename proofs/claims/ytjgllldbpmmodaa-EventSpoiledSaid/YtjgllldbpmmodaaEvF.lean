/-
  A region that draws its order: each order keeps what the reckoner says.
-/
import Derived.Test.YtjgllldbpmmodaaEvE
namespace Go.Ev
open Go.RowKit
set_option linter.unusedSimpArgs false
set_option linter.unusedVariables false
set_option linter.unusedSectionVars false

section
variable {P : Program} {E : Env} {f : FuncId} {T : Tmps} {H : Heap} {fr0 : Nat} {all : List Oper} {rs : List Rec}

theorem bit_lt (h : Good P E f T H fr0 all rs) : ∀ (i : Nat) {r : Rec}, dn rs i = some r → ∀ j, bitOf r.m j = true → j < i := by
  intro i
  induction i using Nat.strongRecOn with
  | _ i ih =>
    intro r hi j hj
    obtain ⟨rs1, rs2, e1, e2, hr, h1, -, -⟩ := good_at h hi
    rw [hr.hm] at hj
    obtain ⟨e, he, hb, hj⟩ := bit_mask.1 hj
    have hlt := hr.edge e he hb
    rcases hj with rfl | hj
    · omega
    · obtain ⟨s, hs⟩ := dn_some hlt
      rw [masks_get hs] at hj
      have hs' : dn rs e.on = some s := by
        rw [e1, show rs2 ++ r :: rs1 = (rs2 ++ [r]) ++ rs1 by simp, dn_app hlt]
        exact hs
      have := ih e.on (by omega) hs' j hj
      omega
theorem bit_trans (h : Good P E f T H fr0 all rs) : ∀ (i : Nat) {r : Rec}, dn rs i = some r → ∀ {j s}, dn rs j = some s → bitOf r.m j = true → ∀ k, bitOf s.m k = true → bitOf r.m k = true := by
  intro i
  induction i using Nat.strongRecOn with
  | _ i ih =>
    intro r hi j s hj hb k hk
    obtain ⟨rs1, rs2, e1, e2, hr, h1, -, -⟩ := good_at h hi
    rw [hr.hm] at hb ⊢
    obtain ⟨e, he, hbe, hb⟩ := bit_mask.1 hb
    have hlt := hr.edge e he hbe
    obtain ⟨x, hx⟩ := dn_some hlt
    have hx' : dn rs e.on = some x := by
      rw [e1, show rs2 ++ r :: rs1 = (rs2 ++ [r]) ++ rs1 by simp, dn_app hlt]
      exact hx
    refine bit_mask.2 ⟨e, he, hbe, .inr ?_⟩
    rw [masks_get hx]
    rcases hb with rfl | hb
    · rw [hx'] at hj
      cases hj
      exact hk
    · rw [masks_get hx] at hb
      exact ih e.on (by omega) hx' hj hb k hk
/-- What one operation needs, said of the whole list. -/
theorem rec_all (h : Good P E f T H fr0 all rs) {i : Nat} {r : Rec} (hi : dn rs i = some r) :
    all[i]? = some r.o ∧ r.d.dst = r.o.dst ∧ Ev.fits E f r.o.dst = true ∧ r.fr ≤ r.fr' ∧ fr0 ≤ r.fr ∧ r.fr' ≤ frOf fr0 rs ∧
    ((WantIs all r.o (selT (bitOf r.m) T rs) true ∧ Grow ([] :: tlD r.d.dry r.d.see (selL (bitOf r.m) rs) H) (r.d.l :: tlD r.d.dry r.d.see (selL (bitOf r.m) rs) H) r.fr r.fr' ∧ OpR P r.o (selT (bitOf r.m) T rs) ([] :: tlD r.d.dry r.d.see (selL (bitOf r.m) rs) H) r.fr r.d.v (r.d.l :: tlD r.d.dry r.d.see (selL (bitOf r.m) rs) H) r.fr' ∧ r.d.writes = oldIn r.fr r.d.l) ∨
    (WantIs all r.o (selT (bitOf r.m) T rs) false ∧ r.d.l = [] ∧ r.d.v = .tup [] ∧ r.d.writes = false)) := by
  obtain ⟨rs1, rs2, e1, e2, hr, h1, h5, h6⟩ := good_at h hi
  have hb := bit_lt h i hi
  have hT : selT (bitOf r.m) T rs = selT (bitOf r.m) T rs1 := by
    have := selT_split (rs1 := rs1) (bitOf r.m) T (rs2 ++ [r])
    rw [← this, show (rs2 ++ [r]) ++ rs1 = rs by rw [e1]; simp]
    refine selT_congr T fun j _ => ?_
    unfold upto
    cases hj : bitOf r.m j with
    | false => rfl
    | true => have := hb j hj; simp; omega
  have hL : selL (bitOf r.m) rs = selL (bitOf r.m) rs1 := by
    have := selL_split (rs1 := rs1) (bitOf r.m) (rs2 ++ [r])
    rw [← this, show (rs2 ++ [r]) ++ rs1 = rs by rw [e1]; simp]
    refine selL_congr fun j _ => ?_
    unfold upto
    cases hj : bitOf r.m j with
    | false => rfl
    | true => have := hb j hj; simp; omega
  rw [hT, hL]
  exact ⟨by rw [← e2]; exact hr.ho, hr.dst, hr.fits, hr.le, h6, h5, hr.done⟩
theorem fr_mono (h : Good P E f T H fr0 all rs) {i j : Nat} {r s : Rec} (hi : dn rs i = some r) (hj : dn rs j = some s) (hlt : j < i) : s.fr' ≤ r.fr := by
  obtain ⟨rs1, rs2, e1, e2, hr, h1, -, -⟩ := good_at h hi
  have hs : dn rs1 j = some s := by
    rw [← dn_app (by omega) (rs2 ++ [r]), show (rs2 ++ [r]) ++ rs1 = rs by rw [e1]; simp]
    exact hj
  obtain ⟨_, _, _, _, _, _, h5, _⟩ := good_at h1 hs
  rw [hr.fr]
  exact h5
theorem fr_disj (h : Good P E f T H fr0 all rs) {i j x : Nat} {r s : Rec} (hi : dn rs i = some r) (hj : dn rs j = some s) (h1 : r.fr ≤ x) (h2 : x < r.fr') (h3 : s.fr ≤ x) (h4 : x < s.fr') : i = j := by
  rcases Nat.lt_trichotomy i j with hl | hl | hl
  · have := fr_mono h hj hi hl; omega
  · exact hl
  · have := fr_mono h hi hj hl; omega
theorem apartM_symm {r s : Done} (h : apartM s r = true) : apartM r s = true := by
  revert h
  unfold apartM
  cases r.dry <;> cases s.dry <;> cases r.writes <;> cases s.writes <;> cases noneOf s.view r.l <;> cases noneOf r.view s.l <;> cases noneOf [s.l] r.l <;> cases noneOf [r.l] s.l <;> simp
theorem noneOf_in {V : Heap} : ∀ {l : Lvl}, noneOf V l = true → ∀ {x}, In l x → Ev.hget V x = none
  | [], _, x, h => by obtain ⟨e, he⟩ := h; simp [lget] at he
  | (n, e) :: l, h, x, hx => by
    simp only [noneOf] at h
    split at h
    · cases h
    · rename_i hn
      obtain ⟨e', he⟩ := hx
      simp only [lget] at he
      split at he
      · rename_i hb
        have := Nat.eq_of_beq_eq_true hb
        subst this
        exact hn
      · exact noneOf_in h ⟨e', he⟩
theorem rec_view (h : Good P E f T H fr0 all rs) {i : Nat} {r : Rec} (hi : dn rs i = some r) : r.d.view = tlD r.d.dry r.d.see (selL (bitOf r.m) rs) H := by
  obtain ⟨rs1, rs2, e1, e2, hr, h1, h5, h6⟩ := good_at h hi
  have hb := bit_lt h i hi
  have hL : selL (bitOf r.m) rs = selL (bitOf r.m) rs1 := by
    have := selL_split (rs1 := rs1) (bitOf r.m) (rs2 ++ [r])
    rw [← this, show (rs2 ++ [r]) ++ rs1 = rs by rw [e1]; simp]
    refine selL_congr fun j _ => ?_
    unfold upto
    cases hj : bitOf r.m j with
    | false => rfl
    | true => have := hb j hj; simp; omega
  rw [hL]
  exact hr.view
/-- Two operations of which neither waits for the other. -/
theorem unord (h : Good P E f T H fr0 all rs) {i j : Nat} {r s : Rec} (hi : dn rs i = some r) (hj : dn rs j = some s) (hne : i ≠ j) (h1 : bitOf r.m j = false) (h2 : bitOf s.m i = false) :
    apartM r.d s.d = true ∧ (∀ t, r.d.dst = some t → t ∉ s.o.looksAt all.toArray ∧ s.d.dst ≠ some t) ∧ (∀ t, s.d.dst = some t → t ∉ r.o.looksAt all.toArray) := by
  have main : ∀ {i j : Nat} {r s : Rec}, dn rs i = some r → dn rs j = some s → j < i → bitOf r.m j = false → apartM r.d s.d = true ∧ Oper.apart all.toArray s.o r.o = true ∧ r.d.dst = r.o.dst ∧ s.d.dst = s.o.dst := by
    intro i j r s hi hj hlt hb
    obtain ⟨rs1, rs2, e1, e2, hr, _, -, -⟩ := good_at h hi
    have hs : dn rs1 j = some s := by
      rw [← dn_app (by omega) (rs2 ++ [r]), show (rs2 ++ [r]) ++ rs1 = rs by rw [e1]; simp]
      exact hj
    obtain ⟨a1, o', a2, a3⟩ := hr.apart j s hs hb
    have hso := (rec_all h hj).1
    rw [hso] at a2
    cases a2
    exact ⟨a1, a3, hr.dst, (rec_all h hj).2.1⟩
  rcases Nat.lt_or_gt_of_ne hne with hl | hl
  · obtain ⟨a1, a2, a3, a4⟩ := main hj hi hl h2
    obtain ⟨b1, b2, b3⟩ := Oper.apart_spec a2
    refine ⟨?_, fun t ht => ⟨b1 t (by rw [← a4]; exact ht), by rw [a3]; exact b2 t (by rw [← a4]; exact ht)⟩, fun t ht => b3 t (by rw [← a3]; exact ht)⟩
    exact apartM_symm a1
  · obtain ⟨a1, a2, a3, a4⟩ := main hi hj hl h1
    obtain ⟨b1, b2, b3⟩ := Oper.apart_spec a2
    refine ⟨a1, fun t ht => ⟨b3 t (by rw [← a3]; exact ht), fun e => b2 t (by rw [← a4]; exact e) (by rw [← a3]; exact ht)⟩, fun t ht => b1 t (by rw [← a4]; exact ht)⟩
/-- Where the names of an operation's level come from. -/
theorem keysIn (h : Good P E f T H fr0 all rs) (hN : Names H fr0) : ∀ (i : Nat) {r : Rec} {x : Nat}, dn rs i = some r → In r.d.l x → x < fr0 ∨ ∃ j s, dn rs j = some s ∧ (j = i ∨ bitOf r.m j = true) ∧ s.fr ≤ x ∧ x < s.fr' := by
  intro i
  induction i using Nat.strongRecOn with
  | _ i ih =>
    intro r x hi hx
    rcases (rec_all h hi).2.2.2.2.2.2 with ⟨_, hg, _, _⟩ | ⟨_, hl, _⟩
    · obtain ⟨e, he⟩ := hx
      rcases hg.dom x e (by simp [hget_cons, he]) with ⟨e', he'⟩ | ⟨h1, h2⟩
      · simp only [hget_cons, lget] at he'
        obtain ⟨hdr, he'⟩ := tlD_get he'
        rw [hget_cons] at he'
        cases hs : lget (selL (bitOf r.m) rs) x with
        | none => rw [hs] at he'; exact .inl (hN x e' he')
        | some e2 =>
          obtain ⟨j, s, hj, hp, hin⟩ := In.sel ⟨e2, hs⟩
          rcases ih j (bit_lt h i hi j hp) hj hin with h1 | ⟨k, s', hk, h2, h3⟩
          · exact .inl h1
          · refine .inr ⟨k, s', hk, .inr ?_, h3⟩
            rcases h2 with rfl | h2
            · exact hp
            · exact bit_trans h i hi hj hp k h2
      · exact .inr ⟨i, r, hi, .inl rfl, h1, h2⟩
    · rw [hl] at hx
      obtain ⟨e, he⟩ := hx
      simp [lget] at he
theorem freshIn (h : Good P E f T H fr0 all rs) {i x : Nat} {r : Rec} (hi : dn rs i = some r) (hw : r.d.writes = false) (hx : In r.d.l x) : r.fr ≤ x ∧ x < r.fr' := by
  refine ⟨?_, (good_lt h hi hx).1⟩
  obtain ⟨e, he⟩ := hx.mem
  rcases (rec_all h hi).2.2.2.2.2.2 with ⟨_, _, _, hw'⟩ | ⟨_, hl, _⟩
  · exact oldIn_spec (hw'.symm.trans hw) _ he
  · rw [hl] at he; cases he
theorem disj (h : Good P E f T H fr0 all rs) (hN : Names H fr0) {i j x : Nat} {r s : Rec} (hi : dn rs i = some r) (hj : dn rs j = some s) (hne : i ≠ j) (h1 : bitOf r.m j = false) (h2 : bitOf s.m i = false) (hx : In r.d.l x) : ¬ In s.d.l x := by
  intro hy
  obtain ⟨a1, -, -⟩ := unord h hi hj hne h1 h2
  have hor : (r.d.writes = false ∨ s.d.writes = false) ∨ noneOf [s.d.l] r.d.l = true := by
    revert a1
    unfold apartM
    cases r.d.writes <;> cases s.d.writes <;> cases noneOf [s.d.l] r.d.l <;> simp
  rcases hor with (hw | hw) | hw
  · obtain ⟨b1, b2⟩ := freshIn h hi hw hx
    rcases keysIn h hN j hj hy with h3 | ⟨k, s', hk, h3, h4, h5⟩
    · have := (rec_all h hi).2.2.2.2.1; omega
    · have := fr_disj h hi hk b1 b2 h4 h5
      subst this
      rcases h3 with h3 | h3
      · exact hne h3
      · rw [h2] at h3; cases h3
  · obtain ⟨b1, b2⟩ := freshIn h hj hw hy
    rcases keysIn h hN i hi hx with h3 | ⟨k, s', hk, h3, h4, h5⟩
    · have := (rec_all h hj).2.2.2.2.1; omega
    · have := fr_disj h hj hk b1 b2 h4 h5
      subst this
      rcases h3 with h3 | h3
      · exact hne h3.symm
      · rw [h1] at h3; cases h3
  · have := noneOf_in hw hx
    rw [hget_cons] at this
    obtain ⟨e, he⟩ := hy
    rw [he] at this
    cases this

def Closed (rs : List Rec) (p : Nat → Bool) : Prop := ∀ i r, dn rs i = some r → p i = true → ∀ j, bitOf r.m j = true → p j = true
theorem dom_out (h : Good P E f T H fr0 all rs) (hN : Names H fr0) {p : Nat → Bool} (hp : Closed rs p) {i x : Nat} {r : Rec} (hi : dn rs i = some r) (hpi : p i = false) {e : Bool × Blk} (he : hget (selL p rs :: H) x = some e) : x < r.fr ∨ r.fr' ≤ x := by
  rw [hget_cons] at he
  cases hs : lget (selL p rs) x with
  | none => rw [hs] at he; have := hN x e he; have := (rec_all h hi).2.2.2.2.1; omega
  | some e2 =>
    obtain ⟨j, s, hj, hpj, hin⟩ := In.sel ⟨e2, hs⟩
    rcases keysIn h hN j hj hin with h1 | ⟨k, s', hk, h2, h3, h4⟩
    · have := (rec_all h hi).2.2.2.2.1; omega
    · by_cases hx : x < r.fr ∨ r.fr' ≤ x
      · exact hx
      · have := fr_disj h hi hk (by omega) (by omega) h3 h4
        subst this
        rcases h2 with rfl | h2
        · rw [hpi] at hpj; cases hpj
        · have := hp j s hj hpj i h2
          rw [hpi] at this; cases this
/-- What an operation that needs memory knows is what is there. -/
theorem know (h : Good P E f T H fr0 all rs) (hN : Names H fr0) {p : Nat → Bool} (hp : Closed rs p) {i x : Nat} {r : Rec} (hi : dn rs i = some r) (hpi : p i = false) (hq : ∀ j, bitOf r.m j = true → p j = true) {e : Bool × Blk} (he : hget (tlD r.d.dry r.d.see (selL (bitOf r.m) rs) H) x = some e) : hget (selL p rs :: H) x = some e := by
  have hev := he
  obtain ⟨hdr, he⟩ := tlD_get he
  have : lget (selL p rs) x = lget (selL (bitOf r.m) rs) x := by
    refine sel_more (fun j s hj => hq j) fun j s hj hpj hqj hin => ?_
    have hne : i ≠ j := fun e => by subst e; rw [hpi] at hpj; cases hpj
    have h2 : bitOf s.m i = false := by
      cases hb : bitOf s.m i with
      | false => rfl
      | true => have := hp j s hj hpj i hb; rw [hpi] at this; cases this
    obtain ⟨a1, -, -⟩ := unord h hi hj hne hqj h2
    have hw : s.d.writes = false ∨ noneOf r.d.view s.d.l = true := by
      revert a1
      unfold apartM
      rw [hdr]
      cases s.d.writes <;> cases r.d.writes <;> cases s.d.dry <;> cases noneOf r.d.view s.d.l <;> simp
    rcases hw with hw | hw
    case inr =>
      have h3 := noneOf_in hw hin
      rw [rec_view h hi] at h3
      rw [h3] at hev
      cases hev
    obtain ⟨b1, b2⟩ := freshIn h hj hw hin
    rw [hget_cons] at he
    cases hs : lget (selL (bitOf r.m) rs) x with
    | none => rw [hs] at he; have := hN x e he; have := (rec_all h hj).2.2.2.2.1; omega
    | some e2 =>
      obtain ⟨k, s', hk, hqk, hin'⟩ := In.sel ⟨e2, hs⟩
      rcases keysIn h hN k hk hin' with h1 | ⟨k', s'', hk', h2', h3, h4⟩
      · have := (rec_all h hj).2.2.2.2.1; omega
      · have := fr_disj h hj hk' b1 b2 h3 h4
        subst this
        have hqj' : bitOf r.m j = true := by
          rcases h2' with rfl | h2'
          · exact hqk
          · exact bit_trans h i hi hk hqk j h2'
        rw [hqj] at hqj'; cases hqj'
  rw [hget_cons] at he ⊢
  rw [this]
  exact he
end
end Go.Ev
