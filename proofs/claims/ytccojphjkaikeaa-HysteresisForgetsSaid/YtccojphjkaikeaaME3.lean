/-
  The law of Forgets.
-/
import Derived.Test.YtccojphjkaikeaaME1a
import Derived.Test.YtccojphjkaikeaaMB1
import Derived.Test.YtccojphjkaikeaaMA8
import Derived.Test.YtccojphjkaikeaaMB6
namespace Go.Ev
open Go.Proofs
set_option linter.unusedVariables false
set_option linter.unusedSimpArgs false
set_option maxRecDepth 100000
noncomputable def yE3 (test : Bool → Prop → Prop → Prop) : Ext := consX test [k12, k30, k31, k34, k24, k23]
theorem yE3_ok : ExtOk Try.prog (yE3 cond) := consX_ok (l := [k12, k30, k31, k34, k24, k23]) ⟨k12_ok, k30_ok, k31_ok, k34_ok, k24_ok, k23_ok, trivial⟩

theorem erB_all {u d t : Nat → Int} {nl : Nat} : ∀ {k i : Nat}, S.erB u d nl t i k = true ↔ ∀ j, i ≤ j → j < i + k → S.any (fun q => decide (t q ≥ u j ∨ t q ≤ d j)) nl = true
  | 0, i => ⟨fun _ j a c => by omega, fun _ => rfl⟩
  | k + 1, i => by
    simp only [S.erB]
    split
    · rename_i h
      rw [erB_all]
      exact ⟨fun e j a c => by
        by_cases hj : j = i
        · subst hj; exact h
        · exact e j (by omega) (by omega), fun e j a c => e j (by omega) (by omega)⟩
    · rename_i h
      exact ⟨fun e => (by cases e), fun e => absurd (e i (Nat.le_refl _) (by omega)) h⟩
theorem made_er {np : Nat} {t v : Nat → Int} (h1 : S.bytes np t = true) (h2 : S.bytes np v = true) (L : List Int) (g : Nat → Bool) (hl : L.length ≤ 1000) (hx : ∀ y ∈ L, -1099511627776 ≤ y ∧ y ≤ 1099511627776) :
    ∃ R : Bool, S.erS (S.mkl (S.mdN np) fun j => S.mdR np t v j).length (fun j => (S.at' (S.mkl (S.mdN np) fun j => S.mdR np t v j) j).1) (fun j => (S.at' (S.mkl (S.mdN np) fun j => S.mdR np t v j) j).2.1) (fun j => (S.at' (S.mkl (S.mdN np) fun j => S.mdR np t v j) j).2.2) (S.mkl (S.mdN np) g).length L.length (fun j => S.at' L j) = (R, 0)
      ∧ (R = true ↔ ∀ j, j < S.mdN np → ∃ y ∈ L, y ≥ (S.mdR np t v j).1 ∨ y ≤ (S.mdR np t v j).2.1) := by
  have he : S.histE (S.mkl (S.mdN np) fun j => S.mdR np t v j).length (fun j => (S.at' (S.mkl (S.mdN np) fun j => S.mdR np t v j) j).1) (fun j => (S.at' (S.mkl (S.mdN np) fun j => S.mdR np t v j) j).2.1) (fun j => (S.at' (S.mkl (S.mdN np) fun j => S.mdR np t v j) j).2.2) (S.mkl (S.mdN np) g).length L.length (fun j => S.at' L j) = 0 := by
    unfold S.histE
    rw [mkl_len, mkl_len, mag_congr (u' := fun j => (S.mdR np t v j).1) (d' := fun j => (S.mdR np t v j).2.1) (w' := fun j => (S.mdR np t v j).2.2) fun j hj => by rw [at_mkl hj]; exact ⟨rfl, rfl, rfl⟩]
    rw [if_pos (made_mag h1 h2), if_neg (by omega)]
    exact inE_list fun j _ hj => by rw [at_lt (by omega)]; exact hx _ (List.getElem_mem _)
  refine ⟨_, by unfold S.erS; rw [if_pos he], ?_⟩
  rw [erB_all]
  have key : ∀ j, j < S.mdN np → (S.any (fun q => decide (S.at' L q ≥ (S.at' (S.mkl (S.mdN np) fun j => S.mdR np t v j) j).1 ∨ S.at' L q ≤ (S.at' (S.mkl (S.mdN np) fun j => S.mdR np t v j) j).2.1)) L.length = true ↔ ∃ y ∈ L, y ≥ (S.mdR np t v j).1 ∨ y ≤ (S.mdR np t v j).2.1) := fun j hj => by
    rw [any_iff, at_mkl hj]
    constructor
    · rintro ⟨q, hq, h⟩
      rw [decide_eq_true_eq, at_lt hq] at h
      exact ⟨_, List.getElem_mem hq, h⟩
    · rintro ⟨y, hy, h⟩
      obtain ⟨q, hq, rfl⟩ := List.getElem_of_mem hy
      exact ⟨q, hq, by rw [decide_eq_true_eq, at_lt hq]; exact h⟩
  rw [mkl_len]
  exact ⟨fun h j hj => (key j hj).mp (h j (Nat.zero_le _) (by omega)), fun h j _ hj => (key j (by omega)).mpr (h j (by omega))⟩
theorem md0 : ∀ j, j < 12 → S.mdB 0 j = false := by decide
theorem md4095 : ∀ j, j < 12 → S.mdB 4095 j = true := by decide
abbrev St9 := Empty
abbrev Rt9 := Bool
noncomputable def V9 (ap np mp : Nat) (tp : Nat → Int) (vp : Nat → Int) (o : Int) (al nl ml : Nat) (tl : Nat → Int) (ones : Int) (r : Rt9) : PV := PV.bool r
noncomputable def N9 (ap np mp : Nat) (tp : Nat → Int) (vp : Nat → Int) (o : Int) (al nl ml : Nat) (tl : Nat → Int) (ones : Int) (r : Rt9) : List Blk := []
noncomputable def I9 (ap np mp : Nat) (tp : Nat → Int) (vp : Nat → Int) (o : Int) (al nl ml : Nat) (tl : Nat → Int) (ones : Int) : St9 → Hd := fun s => s.elim
noncomputable def q9 (ap np mp : Nat) (tp : Nat → Int) (vp : Nat → Int) (o : Int) (al nl ml : Nat) (tl : Nat → Int) (ones : Int) : St9 → Option (St9 ⊕ Rt9) := fun s => s.elim
noncomputable def p9 (ap np mp : Nat) (tp : Nat → Int) (vp : Nat → Int) (o : Int) (al nl ml : Nat) (tl : Nat → Int) (ones : Int) : Option (St9 ⊕ Rt9) := bif (decide ((↑nl : Int) > (60 : Int)))
 then (some (.inr (true)))
 else (bif (decide (al + nl ≤ ml ∧ nl ≤ 999999 ∧ (S.bytes nl fun (j : Nat) => tl (j + al)) = true))
 then (bif (decide
 (ap + np ≤ mp ∧
 (S.bytes np fun (j : Nat) => tp (j + ap)) = true ∧
 (S.bytes np fun (j : Nat) => vp (j + ap)) = true))
 then (bif (decide
 (0 +
 List.length
 (S.mkl (S.mdN np) fun (j : Nat) =>
 S.mdR np (fun (j : Nat) => tp (j + ap)) (fun (j : Nat) => vp (j + ap)) j) ≤
 List.length
 (S.mkl (S.mdN np) fun (j : Nat) =>
 S.mdR np (fun (j : Nat) => tp (j + ap)) (fun (j : Nat) => vp (j + ap)) j) ∧
 List.length
 (S.mkl (S.mdN np) fun (j : Nat) =>
 S.mdR np (fun (j : Nat) => tp (j + ap)) (fun (j : Nat) => vp (j + ap)) j) ≤
 1000000 ∧
 0 + List.length (S.mkl (S.mdN np) fun (j : Nat) => S.mdB o j) ≤
 List.length (S.mkl (S.mdN np) fun (j : Nat) => S.mdB o j) ∧
 List.length (S.mkl (S.mdN np) fun (j : Nat) => S.mdB o j) ≤ 1000000 ∧
 0 + List.length (S.mkl nl fun (j : Nat) => S.inp (tl (j + al))) ≤
 List.length (S.mkl nl fun (j : Nat) => S.inp (tl (j + al))) ∧
 List.length (S.mkl nl fun (j : Nat) => S.inp (tl (j + al))) ≤ 1000000))
 then (bif (Prod.fst
 (S.erS
 (List.length
 (S.mkl (S.mdN np) fun (j : Nat) =>
 S.mdR np (fun (j : Nat) => tp (j + ap)) (fun (j : Nat) => vp (j + ap)) j))
 (fun (j : Nat) =>
 Prod.fst
 (S.at'
 (S.mkl (S.mdN np) fun (j : Nat) =>
 S.mdR np (fun (j : Nat) => tp (j + ap)) (fun (j : Nat) => vp (j + ap)) j)
 j))
 (fun (j : Nat) =>
 Prod.fst
 (Prod.snd
 (S.at'
 (S.mkl (S.mdN np) fun (j : Nat) =>
 S.mdR np (fun (j : Nat) => tp (j + ap)) (fun (j : Nat) => vp (j + ap)) j)
 j)))
 (fun (j : Nat) =>
 Prod.snd
 (Prod.snd
 (S.at'
 (S.mkl (S.mdN np) fun (j : Nat) =>
 S.mdR np (fun (j : Nat) => tp (j + ap)) (fun (j : Nat) => vp (j + ap)) j)
 j)))
 (List.length (S.mkl (S.mdN np) fun (j : Nat) => S.mdB o j))
 (List.length (S.mkl nl fun (j : Nat) => S.inp (tl (j + al)))) fun (j : Nat) =>
 S.at' (S.mkl nl fun (j : Nat) => S.inp (tl (j + al))) j))
 then (bif (decide
 (0 +
 List.length
 (S.mkl (S.mdN np) fun (j : Nat) =>
 S.mdR np (fun (j : Nat) => tp (j + ap)) (fun (j : Nat) => vp (j + ap)) j) ≤
 List.length
 (S.mkl (S.mdN np) fun (j : Nat) =>
 S.mdR np (fun (j : Nat) => tp (j + ap)) (fun (j : Nat) => vp (j + ap)) j) ∧
 List.length
 (S.mkl (S.mdN np) fun (j : Nat) =>
 S.mdR np (fun (j : Nat) => tp (j + ap)) (fun (j : Nat) => vp (j + ap)) j) ≤
 1000000 ∧
 0 + List.length (S.mkl (S.mdN np) fun (j : Nat) => S.mdB ones j) ≤
 List.length (S.mkl (S.mdN np) fun (j : Nat) => S.mdB ones j) ∧
 List.length (S.mkl (S.mdN np) fun (j : Nat) => S.mdB ones j) ≤ 1000000 ∧
 0 + List.length (S.mkl nl fun (j : Nat) => S.inp (tl (j + al))) ≤
 List.length (S.mkl nl fun (j : Nat) => S.inp (tl (j + al))) ∧
 List.length (S.mkl nl fun (j : Nat) => S.inp (tl (j + al))) ≤ 1000000))
 then (bif (decide
 (0 +
 List.length
 (S.mkl (S.mdN np) fun (j : Nat) =>
 S.mdR np (fun (j : Nat) => tp (j + ap)) (fun (j : Nat) => vp (j + ap)) j) ≤
 List.length
 (S.mkl (S.mdN np) fun (j : Nat) =>
 S.mdR np (fun (j : Nat) => tp (j + ap)) (fun (j : Nat) => vp (j + ap)) j) ∧
 List.length
 (S.mkl (S.mdN np) fun (j : Nat) =>
 S.mdR np (fun (j : Nat) => tp (j + ap)) (fun (j : Nat) => vp (j + ap)) j) ≤
 1000000 ∧
 0 + List.length (S.mkl (S.mdN np) fun (j : Nat) => S.mdB (0 : Int) j) ≤
 List.length (S.mkl (S.mdN np) fun (j : Nat) => S.mdB (0 : Int) j) ∧
 List.length (S.mkl (S.mdN np) fun (j : Nat) => S.mdB (0 : Int) j) ≤ 1000000 ∧
 0 + List.length (S.mkl nl fun (j : Nat) => S.inp (tl (j + al))) ≤
 List.length (S.mkl nl fun (j : Nat) => S.inp (tl (j + al))) ∧
 List.length (S.mkl nl fun (j : Nat) => S.inp (tl (j + al))) ≤ 1000000))
 then (bif (decide
 (0 +
 List.length
 (S.mkl (S.mdN np) fun (j : Nat) =>
 S.mdR np (fun (j : Nat) => tp (j + ap)) (fun (j : Nat) => vp (j + ap)) j) ≤
 List.length
 (S.mkl (S.mdN np) fun (j : Nat) =>
 S.mdR np (fun (j : Nat) => tp (j + ap)) (fun (j : Nat) => vp (j + ap)) j) ∧
 List.length
 (S.mkl (S.mdN np) fun (j : Nat) =>
 S.mdR np (fun (j : Nat) => tp (j + ap)) (fun (j : Nat) => vp (j + ap)) j) ≤
 1000000 ∧
 0 + List.length (S.mkl (S.mdN np) fun (j : Nat) => S.mdB (4095 : Int) j) ≤
 List.length (S.mkl (S.mdN np) fun (j : Nat) => S.mdB (4095 : Int) j) ∧
 List.length (S.mkl (S.mdN np) fun (j : Nat) => S.mdB (4095 : Int) j) ≤ 1000000 ∧
 0 + List.length (S.mkl nl fun (j : Nat) => S.inp (tl (j + al))) ≤
 List.length (S.mkl nl fun (j : Nat) => S.inp (tl (j + al))) ∧
 List.length (S.mkl nl fun (j : Nat) => S.inp (tl (j + al))) ≤ 1000000))
 then (bif (Prod.snd
 (S.erS
 (List.length
 (S.mkl (S.mdN np) fun (j : Nat) =>
 S.mdR np (fun (j : Nat) => tp (j + ap)) (fun (j : Nat) => vp (j + ap)) j))
 (fun (j : Nat) =>
 Prod.fst
 (S.at'
 (S.mkl (S.mdN np) fun (j : Nat) =>
 S.mdR np (fun (j : Nat) => tp (j + ap)) (fun (j : Nat) => vp (j + ap)) j)
 j))
 (fun (j : Nat) =>
 Prod.fst
 (Prod.snd
 (S.at'
 (S.mkl (S.mdN np) fun (j : Nat) =>
 S.mdR np (fun (j : Nat) => tp (j + ap)) (fun (j : Nat) => vp (j + ap)) j)
 j)))
 (fun (j : Nat) =>
 Prod.snd
 (Prod.snd
 (S.at'
 (S.mkl (S.mdN np) fun (j : Nat) =>
 S.mdR np (fun (j : Nat) => tp (j + ap)) (fun (j : Nat) => vp (j + ap)) j)
 j)))
 (List.length (S.mkl (S.mdN np) fun (j : Nat) => S.mdB o j))
 (List.length (S.mkl nl fun (j : Nat) => S.inp (tl (j + al)))) fun (j : Nat) =>
 S.at' (S.mkl nl fun (j : Nat) => S.inp (tl (j + al))) j) !=
 (0 : Int))
 then (some (.inr (false)))
 else (bif (Prod.fst
 (S.histS
 (List.length
 (S.mkl (S.mdN np) fun (j : Nat) =>
 S.mdR np (fun (j : Nat) => tp (j + ap)) (fun (j : Nat) => vp (j + ap)) j))
 (fun (j : Nat) =>
 Prod.fst
 (S.at'
 (S.mkl (S.mdN np) fun (j : Nat) =>
 S.mdR np (fun (j : Nat) => tp (j + ap)) (fun (j : Nat) => vp (j + ap)) j)
 j))
 (fun (j : Nat) =>
 Prod.fst
 (Prod.snd
 (S.at'
 (S.mkl (S.mdN np) fun (j : Nat) =>
 S.mdR np (fun (j : Nat) => tp (j + ap)) (fun (j : Nat) => vp (j + ap)) j)
 j)))
 (fun (j : Nat) =>
 Prod.snd
 (Prod.snd
 (S.at'
 (S.mkl (S.mdN np) fun (j : Nat) =>
 S.mdR np (fun (j : Nat) => tp (j + ap)) (fun (j : Nat) => vp (j + ap)) j)
 j)))
 (List.length (S.mkl (S.mdN np) fun (j : Nat) => S.mdB o j))
 (fun (j : Nat) => S.at' (S.mkl (S.mdN np) fun (j : Nat) => S.mdB o j) j)
 (List.length (S.mkl nl fun (j : Nat) => S.inp (tl (j + al)))) fun (j : Nat) =>
 S.at' (S.mkl nl fun (j : Nat) => S.inp (tl (j + al))) j) !=
 (0 : Int))
 then (some (.inr (false)))
 else (bif (Prod.fst
 (S.histS
 (List.length
 (S.mkl (S.mdN np) fun (j : Nat) =>
 S.mdR np (fun (j : Nat) => tp (j + ap)) (fun (j : Nat) => vp (j + ap)) j))
 (fun (j : Nat) =>
 Prod.fst
 (S.at'
 (S.mkl (S.mdN np) fun (j : Nat) =>
 S.mdR np (fun (j : Nat) => tp (j + ap)) (fun (j : Nat) => vp (j + ap)) j)
 j))
 (fun (j : Nat) =>
 Prod.fst
 (Prod.snd
 (S.at'
 (S.mkl (S.mdN np) fun (j : Nat) =>
 S.mdR np (fun (j : Nat) => tp (j + ap)) (fun (j : Nat) => vp (j + ap)) j)
 j)))
 (fun (j : Nat) =>
 Prod.snd
 (Prod.snd
 (S.at'
 (S.mkl (S.mdN np) fun (j : Nat) =>
 S.mdR np (fun (j : Nat) => tp (j + ap)) (fun (j : Nat) => vp (j + ap)) j)
 j)))
 (List.length (S.mkl (S.mdN np) fun (j : Nat) => S.mdB ones j))
 (fun (j : Nat) => S.at' (S.mkl (S.mdN np) fun (j : Nat) => S.mdB ones j) j)
 (List.length (S.mkl nl fun (j : Nat) => S.inp (tl (j + al)))) fun (j : Nat) =>
 S.at' (S.mkl nl fun (j : Nat) => S.inp (tl (j + al))) j) !=
 (0 : Int))
 then (some (.inr (false)))
 else (bif (Prod.fst
 (S.histS
 (List.length
 (S.mkl (S.mdN np) fun (j : Nat) =>
 S.mdR np (fun (j : Nat) => tp (j + ap)) (fun (j : Nat) => vp (j + ap)) j))
 (fun (j : Nat) =>
 Prod.fst
 (S.at'
 (S.mkl (S.mdN np) fun (j : Nat) =>
 S.mdR np (fun (j : Nat) => tp (j + ap)) (fun (j : Nat) => vp (j + ap)) j)
 j))
 (fun (j : Nat) =>
 Prod.fst
 (Prod.snd
 (S.at'
 (S.mkl (S.mdN np) fun (j : Nat) =>
 S.mdR np (fun (j : Nat) => tp (j + ap)) (fun (j : Nat) => vp (j + ap)) j)
 j)))
 (fun (j : Nat) =>
 Prod.snd
 (Prod.snd
 (S.at'
 (S.mkl (S.mdN np) fun (j : Nat) =>
 S.mdR np (fun (j : Nat) => tp (j + ap)) (fun (j : Nat) => vp (j + ap)) j)
 j)))
 (List.length (S.mkl (S.mdN np) fun (j : Nat) => S.mdB (0 : Int) j))
 (fun (j : Nat) => S.at' (S.mkl (S.mdN np) fun (j : Nat) => S.mdB (0 : Int) j) j)
 (List.length (S.mkl nl fun (j : Nat) => S.inp (tl (j + al)))) fun (j : Nat) =>
 S.at' (S.mkl nl fun (j : Nat) => S.inp (tl (j + al))) j) !=
 (0 : Int))
 then (some (.inr (false)))
 else (bif (Prod.fst
 (S.histS
 (List.length
 (S.mkl (S.mdN np) fun (j : Nat) =>
 S.mdR np (fun (j : Nat) => tp (j + ap)) (fun (j : Nat) => vp (j + ap)) j))
 (fun (j : Nat) =>
 Prod.fst
 (S.at'
 (S.mkl (S.mdN np) fun (j : Nat) =>
 S.mdR np (fun (j : Nat) => tp (j + ap)) (fun (j : Nat) => vp (j + ap)) j)
 j))
 (fun (j : Nat) =>
 Prod.fst
 (Prod.snd
 (S.at'
 (S.mkl (S.mdN np) fun (j : Nat) =>
 S.mdR np (fun (j : Nat) => tp (j + ap)) (fun (j : Nat) => vp (j + ap)) j)
 j)))
 (fun (j : Nat) =>
 Prod.snd
 (Prod.snd
 (S.at'
 (S.mkl (S.mdN np) fun (j : Nat) =>
 S.mdR np (fun (j : Nat) => tp (j + ap)) (fun (j : Nat) => vp (j + ap)) j)
 j)))
 (List.length (S.mkl (S.mdN np) fun (j : Nat) => S.mdB (4095 : Int) j))
 (fun (j : Nat) => S.at' (S.mkl (S.mdN np) fun (j : Nat) => S.mdB (4095 : Int) j) j)
 (List.length (S.mkl nl fun (j : Nat) => S.inp (tl (j + al)))) fun (j : Nat) =>
 S.at' (S.mkl nl fun (j : Nat) => S.inp (tl (j + al))) j) !=
 (0 : Int))
 then (some (.inr (false)))
 else (bif (decide
 (0 +
 List.length
 (Prod.fst
 (Prod.snd
 (S.histS
 (List.length
 (S.mkl (S.mdN np) fun (j : Nat) =>
 S.mdR np (fun (j : Nat) => tp (j + ap)) (fun (j : Nat) => vp (j + ap)) j))
 (fun (j : Nat) =>
 Prod.fst
 (S.at'
 (S.mkl (S.mdN np) fun (j : Nat) =>
 S.mdR np (fun (j : Nat) => tp (j + ap)) (fun (j : Nat) => vp (j + ap)) j)
 j))
 (fun (j : Nat) =>
 Prod.fst
 (Prod.snd
 (S.at'
 (S.mkl (S.mdN np) fun (j : Nat) =>
 S.mdR np (fun (j : Nat) => tp (j + ap)) (fun (j : Nat) => vp (j + ap)) j)
 j)))
 (fun (j : Nat) =>
 Prod.snd
 (Prod.snd
 (S.at'
 (S.mkl (S.mdN np) fun (j : Nat) =>
 S.mdR np (fun (j : Nat) => tp (j + ap)) (fun (j : Nat) => vp (j + ap)) j)
 j)))
 (List.length (S.mkl (S.mdN np) fun (j : Nat) => S.mdB (0 : Int) j))
 (fun (j : Nat) => S.at' (S.mkl (S.mdN np) fun (j : Nat) => S.mdB (0 : Int) j) j)
 (List.length (S.mkl nl fun (j : Nat) => S.inp (tl (j + al)))) fun (j : Nat) =>
 S.at' (S.mkl nl fun (j : Nat) => S.inp (tl (j + al))) j))) ≤
 List.length
 (Prod.fst
 (Prod.snd
 (S.histS
 (List.length
 (S.mkl (S.mdN np) fun (j : Nat) =>
 S.mdR np (fun (j : Nat) => tp (j + ap)) (fun (j : Nat) => vp (j + ap)) j))
 (fun (j : Nat) =>
 Prod.fst
 (S.at'
 (S.mkl (S.mdN np) fun (j : Nat) =>
 S.mdR np (fun (j : Nat) => tp (j + ap)) (fun (j : Nat) => vp (j + ap)) j)
 j))
 (fun (j : Nat) =>
 Prod.fst
 (Prod.snd
 (S.at'
 (S.mkl (S.mdN np) fun (j : Nat) =>
 S.mdR np (fun (j : Nat) => tp (j + ap)) (fun (j : Nat) => vp (j + ap)) j)
 j)))
 (fun (j : Nat) =>
 Prod.snd
 (Prod.snd
 (S.at'
 (S.mkl (S.mdN np) fun (j : Nat) =>
 S.mdR np (fun (j : Nat) => tp (j + ap)) (fun (j : Nat) => vp (j + ap)) j)
 j)))
 (List.length (S.mkl (S.mdN np) fun (j : Nat) => S.mdB (0 : Int) j))
 (fun (j : Nat) => S.at' (S.mkl (S.mdN np) fun (j : Nat) => S.mdB (0 : Int) j) j)
 (List.length (S.mkl nl fun (j : Nat) => S.inp (tl (j + al)))) fun (j : Nat) =>
 S.at' (S.mkl nl fun (j : Nat) => S.inp (tl (j + al))) j))) ∧
 List.length
 (Prod.fst
 (Prod.snd
 (S.histS
 (List.length
 (S.mkl (S.mdN np) fun (j : Nat) =>
 S.mdR np (fun (j : Nat) => tp (j + ap)) (fun (j : Nat) => vp (j + ap)) j))
 (fun (j : Nat) =>
 Prod.fst
 (S.at'
 (S.mkl (S.mdN np) fun (j : Nat) =>
 S.mdR np (fun (j : Nat) => tp (j + ap)) (fun (j : Nat) => vp (j + ap)) j)
 j))
 (fun (j : Nat) =>
 Prod.fst
 (Prod.snd
 (S.at'
 (S.mkl (S.mdN np) fun (j : Nat) =>
 S.mdR np (fun (j : Nat) => tp (j + ap)) (fun (j : Nat) => vp (j + ap)) j)
 j)))
 (fun (j : Nat) =>
 Prod.snd
 (Prod.snd
 (S.at'
 (S.mkl (S.mdN np) fun (j : Nat) =>
 S.mdR np (fun (j : Nat) => tp (j + ap)) (fun (j : Nat) => vp (j + ap)) j)
 j)))
 (List.length (S.mkl (S.mdN np) fun (j : Nat) => S.mdB (0 : Int) j))
 (fun (j : Nat) => S.at' (S.mkl (S.mdN np) fun (j : Nat) => S.mdB (0 : Int) j) j)
 (List.length (S.mkl nl fun (j : Nat) => S.inp (tl (j + al)))) fun (j : Nat) =>
 S.at' (S.mkl nl fun (j : Nat) => S.inp (tl (j + al))) j))) ≤
 1000000 ∧
 0 +
 List.length
 (Prod.snd
 (Prod.snd
 (S.histS
 (List.length
 (S.mkl (S.mdN np) fun (j : Nat) =>
 S.mdR np (fun (j : Nat) => tp (j + ap)) (fun (j : Nat) => vp (j + ap)) j))
 (fun (j : Nat) =>
 Prod.fst
 (S.at'
 (S.mkl (S.mdN np) fun (j : Nat) =>
 S.mdR np (fun (j : Nat) => tp (j + ap)) (fun (j : Nat) => vp (j + ap)) j)
 j))
 (fun (j : Nat) =>
 Prod.fst
 (Prod.snd
 (S.at'
 (S.mkl (S.mdN np) fun (j : Nat) =>
 S.mdR np (fun (j : Nat) => tp (j + ap)) (fun (j : Nat) => vp (j + ap)) j)
 j)))
 (fun (j : Nat) =>
 Prod.snd
 (Prod.snd
 (S.at'
 (S.mkl (S.mdN np) fun (j : Nat) =>
 S.mdR np (fun (j : Nat) => tp (j + ap)) (fun (j : Nat) => vp (j + ap)) j)
 j)))
 (List.length (S.mkl (S.mdN np) fun (j : Nat) => S.mdB (0 : Int) j))
 (fun (j : Nat) =>
 S.at' (S.mkl (S.mdN np) fun (j : Nat) => S.mdB (0 : Int) j) j)
 (List.length (S.mkl nl fun (j : Nat) => S.inp (tl (j + al)))) fun (j : Nat) =>
 S.at' (S.mkl nl fun (j : Nat) => S.inp (tl (j + al))) j))) ≤
 List.length
 (Prod.snd
 (Prod.snd
 (S.histS
 (List.length
 (S.mkl (S.mdN np) fun (j : Nat) =>
 S.mdR np (fun (j : Nat) => tp (j + ap)) (fun (j : Nat) => vp (j + ap)) j))
 (fun (j : Nat) =>
 Prod.fst
 (S.at'
 (S.mkl (S.mdN np) fun (j : Nat) =>
 S.mdR np (fun (j : Nat) => tp (j + ap)) (fun (j : Nat) => vp (j + ap)) j)
 j))
 (fun (j : Nat) =>
 Prod.fst
 (Prod.snd
 (S.at'
 (S.mkl (S.mdN np) fun (j : Nat) =>
 S.mdR np (fun (j : Nat) => tp (j + ap)) (fun (j : Nat) => vp (j + ap)) j)
 j)))
 (fun (j : Nat) =>
 Prod.snd
 (Prod.snd
 (S.at'
 (S.mkl (S.mdN np) fun (j : Nat) =>
 S.mdR np (fun (j : Nat) => tp (j + ap)) (fun (j : Nat) => vp (j + ap)) j)
 j)))
 (List.length (S.mkl (S.mdN np) fun (j : Nat) => S.mdB (0 : Int) j))
 (fun (j : Nat) =>
 S.at' (S.mkl (S.mdN np) fun (j : Nat) => S.mdB (0 : Int) j) j)
 (List.length (S.mkl nl fun (j : Nat) => S.inp (tl (j + al)))) fun (j : Nat) =>
 S.at' (S.mkl nl fun (j : Nat) => S.inp (tl (j + al))) j))) ∧
 List.length
 (Prod.snd
 (Prod.snd
 (S.histS
 (List.length
 (S.mkl (S.mdN np) fun (j : Nat) =>
 S.mdR np (fun (j : Nat) => tp (j + ap)) (fun (j : Nat) => vp (j + ap)) j))
 (fun (j : Nat) =>
 Prod.fst
 (S.at'
 (S.mkl (S.mdN np) fun (j : Nat) =>
 S.mdR np (fun (j : Nat) => tp (j + ap)) (fun (j : Nat) => vp (j + ap)) j)
 j))
 (fun (j : Nat) =>
 Prod.fst
 (Prod.snd
 (S.at'
 (S.mkl (S.mdN np) fun (j : Nat) =>
 S.mdR np (fun (j : Nat) => tp (j + ap)) (fun (j : Nat) => vp (j + ap)) j)
 j)))
 (fun (j : Nat) =>
 Prod.snd
 (Prod.snd
 (S.at'
 (S.mkl (S.mdN np) fun (j : Nat) =>
 S.mdR np (fun (j : Nat) => tp (j + ap)) (fun (j : Nat) => vp (j + ap)) j)
 j)))
 (List.length (S.mkl (S.mdN np) fun (j : Nat) => S.mdB (0 : Int) j))
 (fun (j : Nat) =>
 S.at' (S.mkl (S.mdN np) fun (j : Nat) => S.mdB (0 : Int) j) j)
 (List.length (S.mkl nl fun (j : Nat) => S.inp (tl (j + al)))) fun (j : Nat) =>
 S.at' (S.mkl nl fun (j : Nat) => S.inp (tl (j + al))) j))) ≤
 1000000 ∧
 0 +
 List.length
 (Prod.fst
 (Prod.snd
 (S.histS
 (List.length
 (S.mkl (S.mdN np) fun (j : Nat) =>
 S.mdR np (fun (j : Nat) => tp (j + ap)) (fun (j : Nat) => vp (j + ap)) j))
 (fun (j : Nat) =>
 Prod.fst
 (S.at'
 (S.mkl (S.mdN np) fun (j : Nat) =>
 S.mdR np (fun (j : Nat) => tp (j + ap)) (fun (j : Nat) => vp (j + ap)) j)
 j))
 (fun (j : Nat) =>
 Prod.fst
 (Prod.snd
 (S.at'
 (S.mkl (S.mdN np) fun (j : Nat) =>
 S.mdR np (fun (j : Nat) => tp (j + ap)) (fun (j : Nat) => vp (j + ap)) j)
 j)))
 (fun (j : Nat) =>
 Prod.snd
 (Prod.snd
 (S.at'
 (S.mkl (S.mdN np) fun (j : Nat) =>
 S.mdR np (fun (j : Nat) => tp (j + ap)) (fun (j : Nat) => vp (j + ap)) j)
 j)))
 (List.length (S.mkl (S.mdN np) fun (j : Nat) => S.mdB (4095 : Int) j))
 (fun (j : Nat) =>
 S.at' (S.mkl (S.mdN np) fun (j : Nat) => S.mdB (4095 : Int) j) j)
 (List.length (S.mkl nl fun (j : Nat) => S.inp (tl (j + al)))) fun (j : Nat) =>
 S.at' (S.mkl nl fun (j : Nat) => S.inp (tl (j + al))) j))) ≤
 List.length
 (Prod.fst
 (Prod.snd
 (S.histS
 (List.length
 (S.mkl (S.mdN np) fun (j : Nat) =>
 S.mdR np (fun (j : Nat) => tp (j + ap)) (fun (j : Nat) => vp (j + ap)) j))
 (fun (j : Nat) =>
 Prod.fst
 (S.at'
 (S.mkl (S.mdN np) fun (j : Nat) =>
 S.mdR np (fun (j : Nat) => tp (j + ap)) (fun (j : Nat) => vp (j + ap)) j)
 j))
 (fun (j : Nat) =>
 Prod.fst
 (Prod.snd
 (S.at'
 (S.mkl (S.mdN np) fun (j : Nat) =>
 S.mdR np (fun (j : Nat) => tp (j + ap)) (fun (j : Nat) => vp (j + ap)) j)
 j)))
 (fun (j : Nat) =>
 Prod.snd
 (Prod.snd
 (S.at'
 (S.mkl (S.mdN np) fun (j : Nat) =>
 S.mdR np (fun (j : Nat) => tp (j + ap)) (fun (j : Nat) => vp (j + ap)) j)
 j)))
 (List.length (S.mkl (S.mdN np) fun (j : Nat) => S.mdB (4095 : Int) j))
 (fun (j : Nat) =>
 S.at' (S.mkl (S.mdN np) fun (j : Nat) => S.mdB (4095 : Int) j) j)
 (List.length (S.mkl nl fun (j : Nat) => S.inp (tl (j + al)))) fun (j : Nat) =>
 S.at' (S.mkl nl fun (j : Nat) => S.inp (tl (j + al))) j))) ∧
 List.length
 (Prod.fst
 (Prod.snd
 (S.histS
 (List.length
 (S.mkl (S.mdN np) fun (j : Nat) =>
 S.mdR np (fun (j : Nat) => tp (j + ap)) (fun (j : Nat) => vp (j + ap)) j))
 (fun (j : Nat) =>
 Prod.fst
 (S.at'
 (S.mkl (S.mdN np) fun (j : Nat) =>
 S.mdR np (fun (j : Nat) => tp (j + ap)) (fun (j : Nat) => vp (j + ap)) j)
 j))
 (fun (j : Nat) =>
 Prod.fst
 (Prod.snd
 (S.at'
 (S.mkl (S.mdN np) fun (j : Nat) =>
 S.mdR np (fun (j : Nat) => tp (j + ap)) (fun (j : Nat) => vp (j + ap)) j)
 j)))
 (fun (j : Nat) =>
 Prod.snd
 (Prod.snd
 (S.at'
 (S.mkl (S.mdN np) fun (j : Nat) =>
 S.mdR np (fun (j : Nat) => tp (j + ap)) (fun (j : Nat) => vp (j + ap)) j)
 j)))
 (List.length (S.mkl (S.mdN np) fun (j : Nat) => S.mdB (4095 : Int) j))
 (fun (j : Nat) =>
 S.at' (S.mkl (S.mdN np) fun (j : Nat) => S.mdB (4095 : Int) j) j)
 (List.length (S.mkl nl fun (j : Nat) => S.inp (tl (j + al)))) fun (j : Nat) =>
 S.at' (S.mkl nl fun (j : Nat) => S.inp (tl (j + al))) j))) ≤
 1000000 ∧
 0 +
 List.length
 (Prod.snd
 (Prod.snd
 (S.histS
 (List.length
 (S.mkl (S.mdN np) fun (j : Nat) =>
 S.mdR np (fun (j : Nat) => tp (j + ap)) (fun (j : Nat) => vp (j + ap)) j))
 (fun (j : Nat) =>
 Prod.fst
 (S.at'
 (S.mkl (S.mdN np) fun (j : Nat) =>
 S.mdR np (fun (j : Nat) => tp (j + ap)) (fun (j : Nat) => vp (j + ap)) j)
 j))
 (fun (j : Nat) =>
 Prod.fst
 (Prod.snd
 (S.at'
 (S.mkl (S.mdN np) fun (j : Nat) =>
 S.mdR np (fun (j : Nat) => tp (j + ap)) (fun (j : Nat) => vp (j + ap)) j)
 j)))
 (fun (j : Nat) =>
 Prod.snd
 (Prod.snd
 (S.at'
 (S.mkl (S.mdN np) fun (j : Nat) =>
 S.mdR np (fun (j : Nat) => tp (j + ap)) (fun (j : Nat) => vp (j + ap)) j)
 j)))
 (List.length (S.mkl (S.mdN np) fun (j : Nat) => S.mdB (4095 : Int) j))
 (fun (j : Nat) =>
 S.at' (S.mkl (S.mdN np) fun (j : Nat) => S.mdB (4095 : Int) j) j)
 (List.length (S.mkl nl fun (j : Nat) => S.inp (tl (j + al)))) fun (j : Nat) =>
 S.at' (S.mkl nl fun (j : Nat) => S.inp (tl (j + al))) j))) ≤
 List.length
 (Prod.snd
 (Prod.snd
 (S.histS
 (List.length
 (S.mkl (S.mdN np) fun (j : Nat) =>
 S.mdR np (fun (j : Nat) => tp (j + ap)) (fun (j : Nat) => vp (j + ap)) j))
 (fun (j : Nat) =>
 Prod.fst
 (S.at'
 (S.mkl (S.mdN np) fun (j : Nat) =>
 S.mdR np (fun (j : Nat) => tp (j + ap)) (fun (j : Nat) => vp (j + ap)) j)
 j))
 (fun (j : Nat) =>
 Prod.fst
 (Prod.snd
 (S.at'
 (S.mkl (S.mdN np) fun (j : Nat) =>
 S.mdR np (fun (j : Nat) => tp (j + ap)) (fun (j : Nat) => vp (j + ap)) j)
 j)))
 (fun (j : Nat) =>
 Prod.snd
 (Prod.snd
 (S.at'
 (S.mkl (S.mdN np) fun (j : Nat) =>
 S.mdR np (fun (j : Nat) => tp (j + ap)) (fun (j : Nat) => vp (j + ap)) j)
 j)))
 (List.length (S.mkl (S.mdN np) fun (j : Nat) => S.mdB (4095 : Int) j))
 (fun (j : Nat) =>
 S.at' (S.mkl (S.mdN np) fun (j : Nat) => S.mdB (4095 : Int) j) j)
 (List.length (S.mkl nl fun (j : Nat) => S.inp (tl (j + al)))) fun (j : Nat) =>
 S.at' (S.mkl nl fun (j : Nat) => S.inp (tl (j + al))) j))) ∧
 List.length
 (Prod.snd
 (Prod.snd
 (S.histS
 (List.length
 (S.mkl (S.mdN np) fun (j : Nat) =>
 S.mdR np (fun (j : Nat) => tp (j + ap)) (fun (j : Nat) => vp (j + ap)) j))
 (fun (j : Nat) =>
 Prod.fst
 (S.at'
 (S.mkl (S.mdN np) fun (j : Nat) =>
 S.mdR np (fun (j : Nat) => tp (j + ap)) (fun (j : Nat) => vp (j + ap)) j)
 j))
 (fun (j : Nat) =>
 Prod.fst
 (Prod.snd
 (S.at'
 (S.mkl (S.mdN np) fun (j : Nat) =>
 S.mdR np (fun (j : Nat) => tp (j + ap)) (fun (j : Nat) => vp (j + ap)) j)
 j)))
 (fun (j : Nat) =>
 Prod.snd
 (Prod.snd
 (S.at'
 (S.mkl (S.mdN np) fun (j : Nat) =>
 S.mdR np (fun (j : Nat) => tp (j + ap)) (fun (j : Nat) => vp (j + ap)) j)
 j)))
 (List.length (S.mkl (S.mdN np) fun (j : Nat) => S.mdB (4095 : Int) j))
 (fun (j : Nat) =>
 S.at' (S.mkl (S.mdN np) fun (j : Nat) => S.mdB (4095 : Int) j) j)
 (List.length (S.mkl nl fun (j : Nat) => S.inp (tl (j + al)))) fun (j : Nat) =>
 S.at' (S.mkl nl fun (j : Nat) => S.inp (tl (j + al))) j))) ≤
 1000000))
 then (bif (decide
 ((S.mkl
 (List.length
 (Prod.fst
 (Prod.snd
 (S.histS
 (List.length
 (S.mkl (S.mdN np) fun (j : Nat) =>
 S.mdR np (fun (j : Nat) => tp (j + ap)) (fun (j : Nat) => vp (j + ap)) j))
 (fun (j : Nat) =>
 Prod.fst
 (S.at'
 (S.mkl (S.mdN np) fun (j : Nat) =>
 S.mdR np (fun (j : Nat) => tp (j + ap)) (fun (j : Nat) => vp (j + ap)) j)
 j))
 (fun (j : Nat) =>
 Prod.fst
 (Prod.snd
 (S.at'
 (S.mkl (S.mdN np) fun (j : Nat) =>
 S.mdR np (fun (j : Nat) => tp (j + ap)) (fun (j : Nat) => vp (j + ap)) j)
 j)))
 (fun (j : Nat) =>
 Prod.snd
 (Prod.snd
 (S.at'
 (S.mkl (S.mdN np) fun (j : Nat) =>
 S.mdR np (fun (j : Nat) => tp (j + ap)) (fun (j : Nat) => vp (j + ap)) j)
 j)))
 (List.length (S.mkl (S.mdN np) fun (j : Nat) => S.mdB (0 : Int) j))
 (fun (j : Nat) => S.at' (S.mkl (S.mdN np) fun (j : Nat) => S.mdB (0 : Int) j) j)
 (List.length (S.mkl nl fun (j : Nat) => S.inp (tl (j + al)))) fun (j : Nat) =>
 S.at' (S.mkl nl fun (j : Nat) => S.inp (tl (j + al))) j))))
 fun (j : Nat) =>
 (Prod.fst
 (S.at'
 (Prod.fst
 (Prod.snd
 (S.histS
 (List.length
 (S.mkl (S.mdN np) fun (j : Nat) =>
 S.mdR np (fun (j : Nat) => tp (j + ap)) (fun (j : Nat) => vp (j + ap)) j))
 (fun (j : Nat) =>
 Prod.fst
 (S.at'
 (S.mkl (S.mdN np) fun (j : Nat) =>
 S.mdR np (fun (j : Nat) => tp (j + ap)) (fun (j : Nat) => vp (j + ap)) j)
 j))
 (fun (j : Nat) =>
 Prod.fst
 (Prod.snd
 (S.at'
 (S.mkl (S.mdN np) fun (j : Nat) =>
 S.mdR np (fun (j : Nat) => tp (j + ap)) (fun (j : Nat) => vp (j + ap)) j)
 j)))
 (fun (j : Nat) =>
 Prod.snd
 (Prod.snd
 (S.at'
 (S.mkl (S.mdN np) fun (j : Nat) =>
 S.mdR np (fun (j : Nat) => tp (j + ap)) (fun (j : Nat) => vp (j + ap)) j)
 j)))
 (List.length (S.mkl (S.mdN np) fun (j : Nat) => S.mdB (0 : Int) j))
 (fun (j : Nat) =>
 S.at' (S.mkl (S.mdN np) fun (j : Nat) => S.mdB (0 : Int) j) j)
 (List.length (S.mkl nl fun (j : Nat) => S.inp (tl (j + al)))) fun (j : Nat) =>
 S.at' (S.mkl nl fun (j : Nat) => S.inp (tl (j + al))) j)))
 j),
 Prod.fst
 (Prod.snd
 (S.at'
 (Prod.fst
 (Prod.snd
 (S.histS
 (List.length
 (S.mkl (S.mdN np) fun (j : Nat) =>
 S.mdR np (fun (j : Nat) => tp (j + ap)) (fun (j : Nat) => vp (j + ap)) j))
 (fun (j : Nat) =>
 Prod.fst
 (S.at'
 (S.mkl (S.mdN np) fun (j : Nat) =>
 S.mdR np (fun (j : Nat) => tp (j + ap)) (fun (j : Nat) => vp (j + ap)) j)
 j))
 (fun (j : Nat) =>
 Prod.fst
 (Prod.snd
 (S.at'
 (S.mkl (S.mdN np) fun (j : Nat) =>
 S.mdR np (fun (j : Nat) => tp (j + ap)) (fun (j : Nat) => vp (j + ap)) j)
 j)))
 (fun (j : Nat) =>
 Prod.snd
 (Prod.snd
 (S.at'
 (S.mkl (S.mdN np) fun (j : Nat) =>
 S.mdR np (fun (j : Nat) => tp (j + ap)) (fun (j : Nat) => vp (j + ap)) j)
 j)))
 (List.length (S.mkl (S.mdN np) fun (j : Nat) => S.mdB (0 : Int) j))
 (fun (j : Nat) =>
 S.at' (S.mkl (S.mdN np) fun (j : Nat) => S.mdB (0 : Int) j) j)
 (List.length (S.mkl nl fun (j : Nat) => S.inp (tl (j + al)))) fun (j : Nat) =>
 S.at' (S.mkl nl fun (j : Nat) => S.inp (tl (j + al))) j)))
 j)),
 Prod.snd
 (Prod.snd
 (S.at'
 (Prod.fst
 (Prod.snd
 (S.histS
 (List.length
 (S.mkl (S.mdN np) fun (j : Nat) =>
 S.mdR np (fun (j : Nat) => tp (j + ap)) (fun (j : Nat) => vp (j + ap)) j))
 (fun (j : Nat) =>
 Prod.fst
 (S.at'
 (S.mkl (S.mdN np) fun (j : Nat) =>
 S.mdR np (fun (j : Nat) => tp (j + ap)) (fun (j : Nat) => vp (j + ap)) j)
 j))
 (fun (j : Nat) =>
 Prod.fst
 (Prod.snd
 (S.at'
 (S.mkl (S.mdN np) fun (j : Nat) =>
 S.mdR np (fun (j : Nat) => tp (j + ap)) (fun (j : Nat) => vp (j + ap)) j)
 j)))
 (fun (j : Nat) =>
 Prod.snd
 (Prod.snd
 (S.at'
 (S.mkl (S.mdN np) fun (j : Nat) =>
 S.mdR np (fun (j : Nat) => tp (j + ap)) (fun (j : Nat) => vp (j + ap)) j)
 j)))
 (List.length (S.mkl (S.mdN np) fun (j : Nat) => S.mdB (0 : Int) j))
 (fun (j : Nat) =>
 S.at' (S.mkl (S.mdN np) fun (j : Nat) => S.mdB (0 : Int) j) j)
 (List.length (S.mkl nl fun (j : Nat) => S.inp (tl (j + al)))) fun (j : Nat) =>
 S.at' (S.mkl nl fun (j : Nat) => S.inp (tl (j + al))) j)))
 j)))) =
 S.mkl
 (List.length
 (Prod.fst
 (Prod.snd
 (S.histS
 (List.length
 (S.mkl (S.mdN np) fun (j : Nat) =>
 S.mdR np (fun (j : Nat) => tp (j + ap)) (fun (j : Nat) => vp (j + ap)) j))
 (fun (j : Nat) =>
 Prod.fst
 (S.at'
 (S.mkl (S.mdN np) fun (j : Nat) =>
 S.mdR np (fun (j : Nat) => tp (j + ap)) (fun (j : Nat) => vp (j + ap)) j)
 j))
 (fun (j : Nat) =>
 Prod.fst
 (Prod.snd
 (S.at'
 (S.mkl (S.mdN np) fun (j : Nat) =>
 S.mdR np (fun (j : Nat) => tp (j + ap)) (fun (j : Nat) => vp (j + ap)) j)
 j)))
 (fun (j : Nat) =>
 Prod.snd
 (Prod.snd
 (S.at'
 (S.mkl (S.mdN np) fun (j : Nat) =>
 S.mdR np (fun (j : Nat) => tp (j + ap)) (fun (j : Nat) => vp (j + ap)) j)
 j)))
 (List.length (S.mkl (S.mdN np) fun (j : Nat) => S.mdB (4095 : Int) j))
 (fun (j : Nat) =>
 S.at' (S.mkl (S.mdN np) fun (j : Nat) => S.mdB (4095 : Int) j) j)
 (List.length (S.mkl nl fun (j : Nat) => S.inp (tl (j + al)))) fun (j : Nat) =>
 S.at' (S.mkl nl fun (j : Nat) => S.inp (tl (j + al))) j))))
 fun (j : Nat) =>
 (Prod.fst
 (S.at'
 (Prod.fst
 (Prod.snd
 (S.histS
 (List.length
 (S.mkl (S.mdN np) fun (j : Nat) =>
 S.mdR np (fun (j : Nat) => tp (j + ap)) (fun (j : Nat) => vp (j + ap)) j))
 (fun (j : Nat) =>
 Prod.fst
 (S.at'
 (S.mkl (S.mdN np) fun (j : Nat) =>
 S.mdR np (fun (j : Nat) => tp (j + ap)) (fun (j : Nat) => vp (j + ap)) j)
 j))
 (fun (j : Nat) =>
 Prod.fst
 (Prod.snd
 (S.at'
 (S.mkl (S.mdN np) fun (j : Nat) =>
 S.mdR np (fun (j : Nat) => tp (j + ap)) (fun (j : Nat) => vp (j + ap)) j)
 j)))
 (fun (j : Nat) =>
 Prod.snd
 (Prod.snd
 (S.at'
 (S.mkl (S.mdN np) fun (j : Nat) =>
 S.mdR np (fun (j : Nat) => tp (j + ap)) (fun (j : Nat) => vp (j + ap)) j)
 j)))
 (List.length (S.mkl (S.mdN np) fun (j : Nat) => S.mdB (4095 : Int) j))
 (fun (j : Nat) =>
 S.at' (S.mkl (S.mdN np) fun (j : Nat) => S.mdB (4095 : Int) j) j)
 (List.length (S.mkl nl fun (j : Nat) => S.inp (tl (j + al)))) fun (j : Nat) =>
 S.at' (S.mkl nl fun (j : Nat) => S.inp (tl (j + al))) j)))
 j),
 Prod.fst
 (Prod.snd
 (S.at'
 (Prod.fst
 (Prod.snd
 (S.histS
 (List.length
 (S.mkl (S.mdN np) fun (j : Nat) =>
 S.mdR np (fun (j : Nat) => tp (j + ap)) (fun (j : Nat) => vp (j + ap)) j))
 (fun (j : Nat) =>
 Prod.fst
 (S.at'
 (S.mkl (S.mdN np) fun (j : Nat) =>
 S.mdR np (fun (j : Nat) => tp (j + ap)) (fun (j : Nat) => vp (j + ap)) j)
 j))
 (fun (j : Nat) =>
 Prod.fst
 (Prod.snd
 (S.at'
 (S.mkl (S.mdN np) fun (j : Nat) =>
 S.mdR np (fun (j : Nat) => tp (j + ap)) (fun (j : Nat) => vp (j + ap)) j)
 j)))
 (fun (j : Nat) =>
 Prod.snd
 (Prod.snd
 (S.at'
 (S.mkl (S.mdN np) fun (j : Nat) =>
 S.mdR np (fun (j : Nat) => tp (j + ap)) (fun (j : Nat) => vp (j + ap)) j)
 j)))
 (List.length (S.mkl (S.mdN np) fun (j : Nat) => S.mdB (4095 : Int) j))
 (fun (j : Nat) =>
 S.at' (S.mkl (S.mdN np) fun (j : Nat) => S.mdB (4095 : Int) j) j)
 (List.length (S.mkl nl fun (j : Nat) => S.inp (tl (j + al)))) fun (j : Nat) =>
 S.at' (S.mkl nl fun (j : Nat) => S.inp (tl (j + al))) j)))
 j)),
 Prod.snd
 (Prod.snd
 (S.at'
 (Prod.fst
 (Prod.snd
 (S.histS
 (List.length
 (S.mkl (S.mdN np) fun (j : Nat) =>
 S.mdR np (fun (j : Nat) => tp (j + ap)) (fun (j : Nat) => vp (j + ap)) j))
 (fun (j : Nat) =>
 Prod.fst
 (S.at'
 (S.mkl (S.mdN np) fun (j : Nat) =>
 S.mdR np (fun (j : Nat) => tp (j + ap)) (fun (j : Nat) => vp (j + ap)) j)
 j))
 (fun (j : Nat) =>
 Prod.fst
 (Prod.snd
 (S.at'
 (S.mkl (S.mdN np) fun (j : Nat) =>
 S.mdR np (fun (j : Nat) => tp (j + ap)) (fun (j : Nat) => vp (j + ap)) j)
 j)))
 (fun (j : Nat) =>
 Prod.snd
 (Prod.snd
 (S.at'
 (S.mkl (S.mdN np) fun (j : Nat) =>
 S.mdR np (fun (j : Nat) => tp (j + ap)) (fun (j : Nat) => vp (j + ap)) j)
 j)))
 (List.length (S.mkl (S.mdN np) fun (j : Nat) => S.mdB (4095 : Int) j))
 (fun (j : Nat) =>
 S.at' (S.mkl (S.mdN np) fun (j : Nat) => S.mdB (4095 : Int) j) j)
 (List.length (S.mkl nl fun (j : Nat) => S.inp (tl (j + al)))) fun (j : Nat) =>
 S.at' (S.mkl nl fun (j : Nat) => S.inp (tl (j + al))) j)))
 j)))) &&
 decide
 ((S.mkl
 (List.length
 (Prod.snd
 (Prod.snd
 (S.histS
 (List.length
 (S.mkl (S.mdN np) fun (j : Nat) =>
 S.mdR np (fun (j : Nat) => tp (j + ap)) (fun (j : Nat) => vp (j + ap)) j))
 (fun (j : Nat) =>
 Prod.fst
 (S.at'
 (S.mkl (S.mdN np) fun (j : Nat) =>
 S.mdR np (fun (j : Nat) => tp (j + ap)) (fun (j : Nat) => vp (j + ap)) j)
 j))
 (fun (j : Nat) =>
 Prod.fst
 (Prod.snd
 (S.at'
 (S.mkl (S.mdN np) fun (j : Nat) =>
 S.mdR np (fun (j : Nat) => tp (j + ap)) (fun (j : Nat) => vp (j + ap)) j)
 j)))
 (fun (j : Nat) =>
 Prod.snd
 (Prod.snd
 (S.at'
 (S.mkl (S.mdN np) fun (j : Nat) =>
 S.mdR np (fun (j : Nat) => tp (j + ap)) (fun (j : Nat) => vp (j + ap)) j)
 j)))
 (List.length (S.mkl (S.mdN np) fun (j : Nat) => S.mdB (0 : Int) j))
 (fun (j : Nat) => S.at' (S.mkl (S.mdN np) fun (j : Nat) => S.mdB (0 : Int) j) j)
 (List.length (S.mkl nl fun (j : Nat) => S.inp (tl (j + al)))) fun (j : Nat) =>
 S.at' (S.mkl nl fun (j : Nat) => S.inp (tl (j + al))) j))))
 fun (j : Nat) =>
 S.at'
 (Prod.snd
 (Prod.snd
 (S.histS
 (List.length
 (S.mkl (S.mdN np) fun (j : Nat) =>
 S.mdR np (fun (j : Nat) => tp (j + ap)) (fun (j : Nat) => vp (j + ap)) j))
 (fun (j : Nat) =>
 Prod.fst
 (S.at'
 (S.mkl (S.mdN np) fun (j : Nat) =>
 S.mdR np (fun (j : Nat) => tp (j + ap)) (fun (j : Nat) => vp (j + ap)) j)
 j))
 (fun (j : Nat) =>
 Prod.fst
 (Prod.snd
 (S.at'
 (S.mkl (S.mdN np) fun (j : Nat) =>
 S.mdR np (fun (j : Nat) => tp (j + ap)) (fun (j : Nat) => vp (j + ap)) j)
 j)))
 (fun (j : Nat) =>
 Prod.snd
 (Prod.snd
 (S.at'
 (S.mkl (S.mdN np) fun (j : Nat) =>
 S.mdR np (fun (j : Nat) => tp (j + ap)) (fun (j : Nat) => vp (j + ap)) j)
 j)))
 (List.length (S.mkl (S.mdN np) fun (j : Nat) => S.mdB (0 : Int) j))
 (fun (j : Nat) => S.at' (S.mkl (S.mdN np) fun (j : Nat) => S.mdB (0 : Int) j) j)
 (List.length (S.mkl nl fun (j : Nat) => S.inp (tl (j + al)))) fun (j : Nat) =>
 S.at' (S.mkl nl fun (j : Nat) => S.inp (tl (j + al))) j)))
 j) =
 S.mkl
 (List.length
 (Prod.snd
 (Prod.snd
 (S.histS
 (List.length
 (S.mkl (S.mdN np) fun (j : Nat) =>
 S.mdR np (fun (j : Nat) => tp (j + ap)) (fun (j : Nat) => vp (j + ap)) j))
 (fun (j : Nat) =>
 Prod.fst
 (S.at'
 (S.mkl (S.mdN np) fun (j : Nat) =>
 S.mdR np (fun (j : Nat) => tp (j + ap)) (fun (j : Nat) => vp (j + ap)) j)
 j))
 (fun (j : Nat) =>
 Prod.fst
 (Prod.snd
 (S.at'
 (S.mkl (S.mdN np) fun (j : Nat) =>
 S.mdR np (fun (j : Nat) => tp (j + ap)) (fun (j : Nat) => vp (j + ap)) j)
 j)))
 (fun (j : Nat) =>
 Prod.snd
 (Prod.snd
 (S.at'
 (S.mkl (S.mdN np) fun (j : Nat) =>
 S.mdR np (fun (j : Nat) => tp (j + ap)) (fun (j : Nat) => vp (j + ap)) j)
 j)))
 (List.length (S.mkl (S.mdN np) fun (j : Nat) => S.mdB (4095 : Int) j))
 (fun (j : Nat) =>
 S.at' (S.mkl (S.mdN np) fun (j : Nat) => S.mdB (4095 : Int) j) j)
 (List.length (S.mkl nl fun (j : Nat) => S.inp (tl (j + al)))) fun (j : Nat) =>
 S.at' (S.mkl nl fun (j : Nat) => S.inp (tl (j + al))) j))))
 fun (j : Nat) =>
 S.at'
 (Prod.snd
 (Prod.snd
 (S.histS
 (List.length
 (S.mkl (S.mdN np) fun (j : Nat) =>
 S.mdR np (fun (j : Nat) => tp (j + ap)) (fun (j : Nat) => vp (j + ap)) j))
 (fun (j : Nat) =>
 Prod.fst
 (S.at'
 (S.mkl (S.mdN np) fun (j : Nat) =>
 S.mdR np (fun (j : Nat) => tp (j + ap)) (fun (j : Nat) => vp (j + ap)) j)
 j))
 (fun (j : Nat) =>
 Prod.fst
 (Prod.snd
 (S.at'
 (S.mkl (S.mdN np) fun (j : Nat) =>
 S.mdR np (fun (j : Nat) => tp (j + ap)) (fun (j : Nat) => vp (j + ap)) j)
 j)))
 (fun (j : Nat) =>
 Prod.snd
 (Prod.snd
 (S.at'
 (S.mkl (S.mdN np) fun (j : Nat) =>
 S.mdR np (fun (j : Nat) => tp (j + ap)) (fun (j : Nat) => vp (j + ap)) j)
 j)))
 (List.length (S.mkl (S.mdN np) fun (j : Nat) => S.mdB (4095 : Int) j))
 (fun (j : Nat) =>
 S.at' (S.mkl (S.mdN np) fun (j : Nat) => S.mdB (4095 : Int) j) j)
 (List.length (S.mkl nl fun (j : Nat) => S.inp (tl (j + al)))) fun (j : Nat) =>
 S.at' (S.mkl nl fun (j : Nat) => S.inp (tl (j + al))) j)))
 j))
 then (bif (decide
 (0 +
 List.length
 (Prod.fst
 (Prod.snd
 (S.histS
 (List.length
 (S.mkl (S.mdN np) fun (j : Nat) =>
 S.mdR np (fun (j : Nat) => tp (j + ap)) (fun (j : Nat) => vp (j + ap)) j))
 (fun (j : Nat) =>
 Prod.fst
 (S.at'
 (S.mkl (S.mdN np) fun (j : Nat) =>
 S.mdR np (fun (j : Nat) => tp (j + ap)) (fun (j : Nat) => vp (j + ap)) j)
 j))
 (fun (j : Nat) =>
 Prod.fst
 (Prod.snd
 (S.at'
 (S.mkl (S.mdN np) fun (j : Nat) =>
 S.mdR np (fun (j : Nat) => tp (j + ap)) (fun (j : Nat) => vp (j + ap)) j)
 j)))
 (fun (j : Nat) =>
 Prod.snd
 (Prod.snd
 (S.at'
 (S.mkl (S.mdN np) fun (j : Nat) =>
 S.mdR np (fun (j : Nat) => tp (j + ap)) (fun (j : Nat) => vp (j + ap)) j)
 j)))
 (List.length (S.mkl (S.mdN np) fun (j : Nat) => S.mdB o j))
 (fun (j : Nat) => S.at' (S.mkl (S.mdN np) fun (j : Nat) => S.mdB o j) j)
 (List.length (S.mkl nl fun (j : Nat) => S.inp (tl (j + al)))) fun (j : Nat) =>
 S.at' (S.mkl nl fun (j : Nat) => S.inp (tl (j + al))) j))) ≤
 List.length
 (Prod.fst
 (Prod.snd
 (S.histS
 (List.length
 (S.mkl (S.mdN np) fun (j : Nat) =>
 S.mdR np (fun (j : Nat) => tp (j + ap)) (fun (j : Nat) => vp (j + ap)) j))
 (fun (j : Nat) =>
 Prod.fst
 (S.at'
 (S.mkl (S.mdN np) fun (j : Nat) =>
 S.mdR np (fun (j : Nat) => tp (j + ap)) (fun (j : Nat) => vp (j + ap)) j)
 j))
 (fun (j : Nat) =>
 Prod.fst
 (Prod.snd
 (S.at'
 (S.mkl (S.mdN np) fun (j : Nat) =>
 S.mdR np (fun (j : Nat) => tp (j + ap)) (fun (j : Nat) => vp (j + ap)) j)
 j)))
 (fun (j : Nat) =>
 Prod.snd
 (Prod.snd
 (S.at'
 (S.mkl (S.mdN np) fun (j : Nat) =>
 S.mdR np (fun (j : Nat) => tp (j + ap)) (fun (j : Nat) => vp (j + ap)) j)
 j)))
 (List.length (S.mkl (S.mdN np) fun (j : Nat) => S.mdB o j))
 (fun (j : Nat) => S.at' (S.mkl (S.mdN np) fun (j : Nat) => S.mdB o j) j)
 (List.length (S.mkl nl fun (j : Nat) => S.inp (tl (j + al)))) fun (j : Nat) =>
 S.at' (S.mkl nl fun (j : Nat) => S.inp (tl (j + al))) j))) ∧
 List.length
 (Prod.fst
 (Prod.snd
 (S.histS
 (List.length
 (S.mkl (S.mdN np) fun (j : Nat) =>
 S.mdR np (fun (j : Nat) => tp (j + ap)) (fun (j : Nat) => vp (j + ap)) j))
 (fun (j : Nat) =>
 Prod.fst
 (S.at'
 (S.mkl (S.mdN np) fun (j : Nat) =>
 S.mdR np (fun (j : Nat) => tp (j + ap)) (fun (j : Nat) => vp (j + ap)) j)
 j))
 (fun (j : Nat) =>
 Prod.fst
 (Prod.snd
 (S.at'
 (S.mkl (S.mdN np) fun (j : Nat) =>
 S.mdR np (fun (j : Nat) => tp (j + ap)) (fun (j : Nat) => vp (j + ap)) j)
 j)))
 (fun (j : Nat) =>
 Prod.snd
 (Prod.snd
 (S.at'
 (S.mkl (S.mdN np) fun (j : Nat) =>
 S.mdR np (fun (j : Nat) => tp (j + ap)) (fun (j : Nat) => vp (j + ap)) j)
 j)))
 (List.length (S.mkl (S.mdN np) fun (j : Nat) => S.mdB o j))
 (fun (j : Nat) => S.at' (S.mkl (S.mdN np) fun (j : Nat) => S.mdB o j) j)
 (List.length (S.mkl nl fun (j : Nat) => S.inp (tl (j + al)))) fun (j : Nat) =>
 S.at' (S.mkl nl fun (j : Nat) => S.inp (tl (j + al))) j))) ≤
 1000000 ∧
 0 +
 List.length
 (Prod.snd
 (Prod.snd
 (S.histS
 (List.length
 (S.mkl (S.mdN np) fun (j : Nat) =>
 S.mdR np (fun (j : Nat) => tp (j + ap)) (fun (j : Nat) => vp (j + ap)) j))
 (fun (j : Nat) =>
 Prod.fst
 (S.at'
 (S.mkl (S.mdN np) fun (j : Nat) =>
 S.mdR np (fun (j : Nat) => tp (j + ap)) (fun (j : Nat) => vp (j + ap)) j)
 j))
 (fun (j : Nat) =>
 Prod.fst
 (Prod.snd
 (S.at'
 (S.mkl (S.mdN np) fun (j : Nat) =>
 S.mdR np (fun (j : Nat) => tp (j + ap)) (fun (j : Nat) => vp (j + ap)) j)
 j)))
 (fun (j : Nat) =>
 Prod.snd
 (Prod.snd
 (S.at'
 (S.mkl (S.mdN np) fun (j : Nat) =>
 S.mdR np (fun (j : Nat) => tp (j + ap)) (fun (j : Nat) => vp (j + ap)) j)
 j)))
 (List.length (S.mkl (S.mdN np) fun (j : Nat) => S.mdB o j))
 (fun (j : Nat) => S.at' (S.mkl (S.mdN np) fun (j : Nat) => S.mdB o j) j)
 (List.length (S.mkl nl fun (j : Nat) => S.inp (tl (j + al)))) fun (j : Nat) =>
 S.at' (S.mkl nl fun (j : Nat) => S.inp (tl (j + al))) j))) ≤
 List.length
 (Prod.snd
 (Prod.snd
 (S.histS
 (List.length
 (S.mkl (S.mdN np) fun (j : Nat) =>
 S.mdR np (fun (j : Nat) => tp (j + ap)) (fun (j : Nat) => vp (j + ap)) j))
 (fun (j : Nat) =>
 Prod.fst
 (S.at'
 (S.mkl (S.mdN np) fun (j : Nat) =>
 S.mdR np (fun (j : Nat) => tp (j + ap)) (fun (j : Nat) => vp (j + ap)) j)
 j))
 (fun (j : Nat) =>
 Prod.fst
 (Prod.snd
 (S.at'
 (S.mkl (S.mdN np) fun (j : Nat) =>
 S.mdR np (fun (j : Nat) => tp (j + ap)) (fun (j : Nat) => vp (j + ap)) j)
 j)))
 (fun (j : Nat) =>
 Prod.snd
 (Prod.snd
 (S.at'
 (S.mkl (S.mdN np) fun (j : Nat) =>
 S.mdR np (fun (j : Nat) => tp (j + ap)) (fun (j : Nat) => vp (j + ap)) j)
 j)))
 (List.length (S.mkl (S.mdN np) fun (j : Nat) => S.mdB o j))
 (fun (j : Nat) => S.at' (S.mkl (S.mdN np) fun (j : Nat) => S.mdB o j) j)
 (List.length (S.mkl nl fun (j : Nat) => S.inp (tl (j + al)))) fun (j : Nat) =>
 S.at' (S.mkl nl fun (j : Nat) => S.inp (tl (j + al))) j))) ∧
 List.length
 (Prod.snd
 (Prod.snd
 (S.histS
 (List.length
 (S.mkl (S.mdN np) fun (j : Nat) =>
 S.mdR np (fun (j : Nat) => tp (j + ap)) (fun (j : Nat) => vp (j + ap)) j))
 (fun (j : Nat) =>
 Prod.fst
 (S.at'
 (S.mkl (S.mdN np) fun (j : Nat) =>
 S.mdR np (fun (j : Nat) => tp (j + ap)) (fun (j : Nat) => vp (j + ap)) j)
 j))
 (fun (j : Nat) =>
 Prod.fst
 (Prod.snd
 (S.at'
 (S.mkl (S.mdN np) fun (j : Nat) =>
 S.mdR np (fun (j : Nat) => tp (j + ap)) (fun (j : Nat) => vp (j + ap)) j)
 j)))
 (fun (j : Nat) =>
 Prod.snd
 (Prod.snd
 (S.at'
 (S.mkl (S.mdN np) fun (j : Nat) =>
 S.mdR np (fun (j : Nat) => tp (j + ap)) (fun (j : Nat) => vp (j + ap)) j)
 j)))
 (List.length (S.mkl (S.mdN np) fun (j : Nat) => S.mdB o j))
 (fun (j : Nat) => S.at' (S.mkl (S.mdN np) fun (j : Nat) => S.mdB o j) j)
 (List.length (S.mkl nl fun (j : Nat) => S.inp (tl (j + al)))) fun (j : Nat) =>
 S.at' (S.mkl nl fun (j : Nat) => S.inp (tl (j + al))) j))) ≤
 1000000 ∧
 0 +
 List.length
 (Prod.fst
 (Prod.snd
 (S.histS
 (List.length
 (S.mkl (S.mdN np) fun (j : Nat) =>
 S.mdR np (fun (j : Nat) => tp (j + ap)) (fun (j : Nat) => vp (j + ap)) j))
 (fun (j : Nat) =>
 Prod.fst
 (S.at'
 (S.mkl (S.mdN np) fun (j : Nat) =>
 S.mdR np (fun (j : Nat) => tp (j + ap)) (fun (j : Nat) => vp (j + ap)) j)
 j))
 (fun (j : Nat) =>
 Prod.fst
 (Prod.snd
 (S.at'
 (S.mkl (S.mdN np) fun (j : Nat) =>
 S.mdR np (fun (j : Nat) => tp (j + ap)) (fun (j : Nat) => vp (j + ap)) j)
 j)))
 (fun (j : Nat) =>
 Prod.snd
 (Prod.snd
 (S.at'
 (S.mkl (S.mdN np) fun (j : Nat) =>
 S.mdR np (fun (j : Nat) => tp (j + ap)) (fun (j : Nat) => vp (j + ap)) j)
 j)))
 (List.length (S.mkl (S.mdN np) fun (j : Nat) => S.mdB ones j))
 (fun (j : Nat) =>
 S.at' (S.mkl (S.mdN np) fun (j : Nat) => S.mdB ones j) j)
 (List.length (S.mkl nl fun (j : Nat) => S.inp (tl (j + al)))) fun (j : Nat) =>
 S.at' (S.mkl nl fun (j : Nat) => S.inp (tl (j + al))) j))) ≤
 List.length
 (Prod.fst
 (Prod.snd
 (S.histS
 (List.length
 (S.mkl (S.mdN np) fun (j : Nat) =>
 S.mdR np (fun (j : Nat) => tp (j + ap)) (fun (j : Nat) => vp (j + ap)) j))
 (fun (j : Nat) =>
 Prod.fst
 (S.at'
 (S.mkl (S.mdN np) fun (j : Nat) =>
 S.mdR np (fun (j : Nat) => tp (j + ap)) (fun (j : Nat) => vp (j + ap)) j)
 j))
 (fun (j : Nat) =>
 Prod.fst
 (Prod.snd
 (S.at'
 (S.mkl (S.mdN np) fun (j : Nat) =>
 S.mdR np (fun (j : Nat) => tp (j + ap)) (fun (j : Nat) => vp (j + ap)) j)
 j)))
 (fun (j : Nat) =>
 Prod.snd
 (Prod.snd
 (S.at'
 (S.mkl (S.mdN np) fun (j : Nat) =>
 S.mdR np (fun (j : Nat) => tp (j + ap)) (fun (j : Nat) => vp (j + ap)) j)
 j)))
 (List.length (S.mkl (S.mdN np) fun (j : Nat) => S.mdB ones j))
 (fun (j : Nat) =>
 S.at' (S.mkl (S.mdN np) fun (j : Nat) => S.mdB ones j) j)
 (List.length (S.mkl nl fun (j : Nat) => S.inp (tl (j + al)))) fun (j : Nat) =>
 S.at' (S.mkl nl fun (j : Nat) => S.inp (tl (j + al))) j))) ∧
 List.length
 (Prod.fst
 (Prod.snd
 (S.histS
 (List.length
 (S.mkl (S.mdN np) fun (j : Nat) =>
 S.mdR np (fun (j : Nat) => tp (j + ap)) (fun (j : Nat) => vp (j + ap)) j))
 (fun (j : Nat) =>
 Prod.fst
 (S.at'
 (S.mkl (S.mdN np) fun (j : Nat) =>
 S.mdR np (fun (j : Nat) => tp (j + ap)) (fun (j : Nat) => vp (j + ap)) j)
 j))
 (fun (j : Nat) =>
 Prod.fst
 (Prod.snd
 (S.at'
 (S.mkl (S.mdN np) fun (j : Nat) =>
 S.mdR np (fun (j : Nat) => tp (j + ap)) (fun (j : Nat) => vp (j + ap)) j)
 j)))
 (fun (j : Nat) =>
 Prod.snd
 (Prod.snd
 (S.at'
 (S.mkl (S.mdN np) fun (j : Nat) =>
 S.mdR np (fun (j : Nat) => tp (j + ap)) (fun (j : Nat) => vp (j + ap)) j)
 j)))
 (List.length (S.mkl (S.mdN np) fun (j : Nat) => S.mdB ones j))
 (fun (j : Nat) =>
 S.at' (S.mkl (S.mdN np) fun (j : Nat) => S.mdB ones j) j)
 (List.length (S.mkl nl fun (j : Nat) => S.inp (tl (j + al)))) fun (j : Nat) =>
 S.at' (S.mkl nl fun (j : Nat) => S.inp (tl (j + al))) j))) ≤
 1000000 ∧
 0 +
 List.length
 (Prod.snd
 (Prod.snd
 (S.histS
 (List.length
 (S.mkl (S.mdN np) fun (j : Nat) =>
 S.mdR np (fun (j : Nat) => tp (j + ap)) (fun (j : Nat) => vp (j + ap)) j))
 (fun (j : Nat) =>
 Prod.fst
 (S.at'
 (S.mkl (S.mdN np) fun (j : Nat) =>
 S.mdR np (fun (j : Nat) => tp (j + ap)) (fun (j : Nat) => vp (j + ap)) j)
 j))
 (fun (j : Nat) =>
 Prod.fst
 (Prod.snd
 (S.at'
 (S.mkl (S.mdN np) fun (j : Nat) =>
 S.mdR np (fun (j : Nat) => tp (j + ap)) (fun (j : Nat) => vp (j + ap)) j)
 j)))
 (fun (j : Nat) =>
 Prod.snd
 (Prod.snd
 (S.at'
 (S.mkl (S.mdN np) fun (j : Nat) =>
 S.mdR np (fun (j : Nat) => tp (j + ap)) (fun (j : Nat) => vp (j + ap)) j)
 j)))
 (List.length (S.mkl (S.mdN np) fun (j : Nat) => S.mdB ones j))
 (fun (j : Nat) =>
 S.at' (S.mkl (S.mdN np) fun (j : Nat) => S.mdB ones j) j)
 (List.length (S.mkl nl fun (j : Nat) => S.inp (tl (j + al)))) fun (j : Nat) =>
 S.at' (S.mkl nl fun (j : Nat) => S.inp (tl (j + al))) j))) ≤
 List.length
 (Prod.snd
 (Prod.snd
 (S.histS
 (List.length
 (S.mkl (S.mdN np) fun (j : Nat) =>
 S.mdR np (fun (j : Nat) => tp (j + ap)) (fun (j : Nat) => vp (j + ap)) j))
 (fun (j : Nat) =>
 Prod.fst
 (S.at'
 (S.mkl (S.mdN np) fun (j : Nat) =>
 S.mdR np (fun (j : Nat) => tp (j + ap)) (fun (j : Nat) => vp (j + ap)) j)
 j))
 (fun (j : Nat) =>
 Prod.fst
 (Prod.snd
 (S.at'
 (S.mkl (S.mdN np) fun (j : Nat) =>
 S.mdR np (fun (j : Nat) => tp (j + ap)) (fun (j : Nat) => vp (j + ap)) j)
 j)))
 (fun (j : Nat) =>
 Prod.snd
 (Prod.snd
 (S.at'
 (S.mkl (S.mdN np) fun (j : Nat) =>
 S.mdR np (fun (j : Nat) => tp (j + ap)) (fun (j : Nat) => vp (j + ap)) j)
 j)))
 (List.length (S.mkl (S.mdN np) fun (j : Nat) => S.mdB ones j))
 (fun (j : Nat) =>
 S.at' (S.mkl (S.mdN np) fun (j : Nat) => S.mdB ones j) j)
 (List.length (S.mkl nl fun (j : Nat) => S.inp (tl (j + al)))) fun (j : Nat) =>
 S.at' (S.mkl nl fun (j : Nat) => S.inp (tl (j + al))) j))) ∧
 List.length
 (Prod.snd
 (Prod.snd
 (S.histS
 (List.length
 (S.mkl (S.mdN np) fun (j : Nat) =>
 S.mdR np (fun (j : Nat) => tp (j + ap)) (fun (j : Nat) => vp (j + ap)) j))
 (fun (j : Nat) =>
 Prod.fst
 (S.at'
 (S.mkl (S.mdN np) fun (j : Nat) =>
 S.mdR np (fun (j : Nat) => tp (j + ap)) (fun (j : Nat) => vp (j + ap)) j)
 j))
 (fun (j : Nat) =>
 Prod.fst
 (Prod.snd
 (S.at'
 (S.mkl (S.mdN np) fun (j : Nat) =>
 S.mdR np (fun (j : Nat) => tp (j + ap)) (fun (j : Nat) => vp (j + ap)) j)
 j)))
 (fun (j : Nat) =>
 Prod.snd
 (Prod.snd
 (S.at'
 (S.mkl (S.mdN np) fun (j : Nat) =>
 S.mdR np (fun (j : Nat) => tp (j + ap)) (fun (j : Nat) => vp (j + ap)) j)
 j)))
 (List.length (S.mkl (S.mdN np) fun (j : Nat) => S.mdB ones j))
 (fun (j : Nat) =>
 S.at' (S.mkl (S.mdN np) fun (j : Nat) => S.mdB ones j) j)
 (List.length (S.mkl nl fun (j : Nat) => S.inp (tl (j + al)))) fun (j : Nat) =>
 S.at' (S.mkl nl fun (j : Nat) => S.inp (tl (j + al))) j))) ≤
 1000000))
 then (bif (decide
 ((S.mkl
 (List.length
 (Prod.fst
 (Prod.snd
 (S.histS
 (List.length
 (S.mkl (S.mdN np) fun (j : Nat) =>
 S.mdR np (fun (j : Nat) => tp (j + ap)) (fun (j : Nat) => vp (j + ap)) j))
 (fun (j : Nat) =>
 Prod.fst
 (S.at'
 (S.mkl (S.mdN np) fun (j : Nat) =>
 S.mdR np (fun (j : Nat) => tp (j + ap)) (fun (j : Nat) => vp (j + ap)) j)
 j))
 (fun (j : Nat) =>
 Prod.fst
 (Prod.snd
 (S.at'
 (S.mkl (S.mdN np) fun (j : Nat) =>
 S.mdR np (fun (j : Nat) => tp (j + ap)) (fun (j : Nat) => vp (j + ap)) j)
 j)))
 (fun (j : Nat) =>
 Prod.snd
 (Prod.snd
 (S.at'
 (S.mkl (S.mdN np) fun (j : Nat) =>
 S.mdR np (fun (j : Nat) => tp (j + ap)) (fun (j : Nat) => vp (j + ap)) j)
 j)))
 (List.length (S.mkl (S.mdN np) fun (j : Nat) => S.mdB o j))
 (fun (j : Nat) => S.at' (S.mkl (S.mdN np) fun (j : Nat) => S.mdB o j) j)
 (List.length (S.mkl nl fun (j : Nat) => S.inp (tl (j + al)))) fun (j : Nat) =>
 S.at' (S.mkl nl fun (j : Nat) => S.inp (tl (j + al))) j))))
 fun (j : Nat) =>
 (Prod.fst
 (S.at'
 (Prod.fst
 (Prod.snd
 (S.histS
 (List.length
 (S.mkl (S.mdN np) fun (j : Nat) =>
 S.mdR np (fun (j : Nat) => tp (j + ap)) (fun (j : Nat) => vp (j + ap)) j))
 (fun (j : Nat) =>
 Prod.fst
 (S.at'
 (S.mkl (S.mdN np) fun (j : Nat) =>
 S.mdR np (fun (j : Nat) => tp (j + ap)) (fun (j : Nat) => vp (j + ap)) j)
 j))
 (fun (j : Nat) =>
 Prod.fst
 (Prod.snd
 (S.at'
 (S.mkl (S.mdN np) fun (j : Nat) =>
 S.mdR np (fun (j : Nat) => tp (j + ap)) (fun (j : Nat) => vp (j + ap)) j)
 j)))
 (fun (j : Nat) =>
 Prod.snd
 (Prod.snd
 (S.at'
 (S.mkl (S.mdN np) fun (j : Nat) =>
 S.mdR np (fun (j : Nat) => tp (j + ap)) (fun (j : Nat) => vp (j + ap)) j)
 j)))
 (List.length (S.mkl (S.mdN np) fun (j : Nat) => S.mdB o j))
 (fun (j : Nat) => S.at' (S.mkl (S.mdN np) fun (j : Nat) => S.mdB o j) j)
 (List.length (S.mkl nl fun (j : Nat) => S.inp (tl (j + al)))) fun (j : Nat) =>
 S.at' (S.mkl nl fun (j : Nat) => S.inp (tl (j + al))) j)))
 j),
 Prod.fst
 (Prod.snd
 (S.at'
 (Prod.fst
 (Prod.snd
 (S.histS
 (List.length
 (S.mkl (S.mdN np) fun (j : Nat) =>
 S.mdR np (fun (j : Nat) => tp (j + ap)) (fun (j : Nat) => vp (j + ap)) j))
 (fun (j : Nat) =>
 Prod.fst
 (S.at'
 (S.mkl (S.mdN np) fun (j : Nat) =>
 S.mdR np (fun (j : Nat) => tp (j + ap)) (fun (j : Nat) => vp (j + ap)) j)
 j))
 (fun (j : Nat) =>
 Prod.fst
 (Prod.snd
 (S.at'
 (S.mkl (S.mdN np) fun (j : Nat) =>
 S.mdR np (fun (j : Nat) => tp (j + ap)) (fun (j : Nat) => vp (j + ap)) j)
 j)))
 (fun (j : Nat) =>
 Prod.snd
 (Prod.snd
 (S.at'
 (S.mkl (S.mdN np) fun (j : Nat) =>
 S.mdR np (fun (j : Nat) => tp (j + ap)) (fun (j : Nat) => vp (j + ap)) j)
 j)))
 (List.length (S.mkl (S.mdN np) fun (j : Nat) => S.mdB o j))
 (fun (j : Nat) => S.at' (S.mkl (S.mdN np) fun (j : Nat) => S.mdB o j) j)
 (List.length (S.mkl nl fun (j : Nat) => S.inp (tl (j + al)))) fun (j : Nat) =>
 S.at' (S.mkl nl fun (j : Nat) => S.inp (tl (j + al))) j)))
 j)),
 Prod.snd
 (Prod.snd
 (S.at'
 (Prod.fst
 (Prod.snd
 (S.histS
 (List.length
 (S.mkl (S.mdN np) fun (j : Nat) =>
 S.mdR np (fun (j : Nat) => tp (j + ap)) (fun (j : Nat) => vp (j + ap)) j))
 (fun (j : Nat) =>
 Prod.fst
 (S.at'
 (S.mkl (S.mdN np) fun (j : Nat) =>
 S.mdR np (fun (j : Nat) => tp (j + ap)) (fun (j : Nat) => vp (j + ap)) j)
 j))
 (fun (j : Nat) =>
 Prod.fst
 (Prod.snd
 (S.at'
 (S.mkl (S.mdN np) fun (j : Nat) =>
 S.mdR np (fun (j : Nat) => tp (j + ap)) (fun (j : Nat) => vp (j + ap)) j)
 j)))
 (fun (j : Nat) =>
 Prod.snd
 (Prod.snd
 (S.at'
 (S.mkl (S.mdN np) fun (j : Nat) =>
 S.mdR np (fun (j : Nat) => tp (j + ap)) (fun (j : Nat) => vp (j + ap)) j)
 j)))
 (List.length (S.mkl (S.mdN np) fun (j : Nat) => S.mdB o j))
 (fun (j : Nat) => S.at' (S.mkl (S.mdN np) fun (j : Nat) => S.mdB o j) j)
 (List.length (S.mkl nl fun (j : Nat) => S.inp (tl (j + al)))) fun (j : Nat) =>
 S.at' (S.mkl nl fun (j : Nat) => S.inp (tl (j + al))) j)))
 j)))) =
 S.mkl
 (List.length
 (Prod.fst
 (Prod.snd
 (S.histS
 (List.length
 (S.mkl (S.mdN np) fun (j : Nat) =>
 S.mdR np (fun (j : Nat) => tp (j + ap)) (fun (j : Nat) => vp (j + ap)) j))
 (fun (j : Nat) =>
 Prod.fst
 (S.at'
 (S.mkl (S.mdN np) fun (j : Nat) =>
 S.mdR np (fun (j : Nat) => tp (j + ap)) (fun (j : Nat) => vp (j + ap)) j)
 j))
 (fun (j : Nat) =>
 Prod.fst
 (Prod.snd
 (S.at'
 (S.mkl (S.mdN np) fun (j : Nat) =>
 S.mdR np (fun (j : Nat) => tp (j + ap)) (fun (j : Nat) => vp (j + ap)) j)
 j)))
 (fun (j : Nat) =>
 Prod.snd
 (Prod.snd
 (S.at'
 (S.mkl (S.mdN np) fun (j : Nat) =>
 S.mdR np (fun (j : Nat) => tp (j + ap)) (fun (j : Nat) => vp (j + ap)) j)
 j)))
 (List.length (S.mkl (S.mdN np) fun (j : Nat) => S.mdB ones j))
 (fun (j : Nat) => S.at' (S.mkl (S.mdN np) fun (j : Nat) => S.mdB ones j) j)
 (List.length (S.mkl nl fun (j : Nat) => S.inp (tl (j + al)))) fun (j : Nat) =>
 S.at' (S.mkl nl fun (j : Nat) => S.inp (tl (j + al))) j))))
 fun (j : Nat) =>
 (Prod.fst
 (S.at'
 (Prod.fst
 (Prod.snd
 (S.histS
 (List.length
 (S.mkl (S.mdN np) fun (j : Nat) =>
 S.mdR np (fun (j : Nat) => tp (j + ap)) (fun (j : Nat) => vp (j + ap)) j))
 (fun (j : Nat) =>
 Prod.fst
 (S.at'
 (S.mkl (S.mdN np) fun (j : Nat) =>
 S.mdR np (fun (j : Nat) => tp (j + ap)) (fun (j : Nat) => vp (j + ap)) j)
 j))
 (fun (j : Nat) =>
 Prod.fst
 (Prod.snd
 (S.at'
 (S.mkl (S.mdN np) fun (j : Nat) =>
 S.mdR np (fun (j : Nat) => tp (j + ap)) (fun (j : Nat) => vp (j + ap)) j)
 j)))
 (fun (j : Nat) =>
 Prod.snd
 (Prod.snd
 (S.at'
 (S.mkl (S.mdN np) fun (j : Nat) =>
 S.mdR np (fun (j : Nat) => tp (j + ap)) (fun (j : Nat) => vp (j + ap)) j)
 j)))
 (List.length (S.mkl (S.mdN np) fun (j : Nat) => S.mdB ones j))
 (fun (j : Nat) => S.at' (S.mkl (S.mdN np) fun (j : Nat) => S.mdB ones j) j)
 (List.length (S.mkl nl fun (j : Nat) => S.inp (tl (j + al)))) fun (j : Nat) =>
 S.at' (S.mkl nl fun (j : Nat) => S.inp (tl (j + al))) j)))
 j),
 Prod.fst
 (Prod.snd
 (S.at'
 (Prod.fst
 (Prod.snd
 (S.histS
 (List.length
 (S.mkl (S.mdN np) fun (j : Nat) =>
 S.mdR np (fun (j : Nat) => tp (j + ap)) (fun (j : Nat) => vp (j + ap)) j))
 (fun (j : Nat) =>
 Prod.fst
 (S.at'
 (S.mkl (S.mdN np) fun (j : Nat) =>
 S.mdR np (fun (j : Nat) => tp (j + ap)) (fun (j : Nat) => vp (j + ap)) j)
 j))
 (fun (j : Nat) =>
 Prod.fst
 (Prod.snd
 (S.at'
 (S.mkl (S.mdN np) fun (j : Nat) =>
 S.mdR np (fun (j : Nat) => tp (j + ap)) (fun (j : Nat) => vp (j + ap)) j)
 j)))
 (fun (j : Nat) =>
 Prod.snd
 (Prod.snd
 (S.at'
 (S.mkl (S.mdN np) fun (j : Nat) =>
 S.mdR np (fun (j : Nat) => tp (j + ap)) (fun (j : Nat) => vp (j + ap)) j)
 j)))
 (List.length (S.mkl (S.mdN np) fun (j : Nat) => S.mdB ones j))
 (fun (j : Nat) =>
 S.at' (S.mkl (S.mdN np) fun (j : Nat) => S.mdB ones j) j)
 (List.length (S.mkl nl fun (j : Nat) => S.inp (tl (j + al)))) fun (j : Nat) =>
 S.at' (S.mkl nl fun (j : Nat) => S.inp (tl (j + al))) j)))
 j)),
 Prod.snd
 (Prod.snd
 (S.at'
 (Prod.fst
 (Prod.snd
 (S.histS
 (List.length
 (S.mkl (S.mdN np) fun (j : Nat) =>
 S.mdR np (fun (j : Nat) => tp (j + ap)) (fun (j : Nat) => vp (j + ap)) j))
 (fun (j : Nat) =>
 Prod.fst
 (S.at'
 (S.mkl (S.mdN np) fun (j : Nat) =>
 S.mdR np (fun (j : Nat) => tp (j + ap)) (fun (j : Nat) => vp (j + ap)) j)
 j))
 (fun (j : Nat) =>
 Prod.fst
 (Prod.snd
 (S.at'
 (S.mkl (S.mdN np) fun (j : Nat) =>
 S.mdR np (fun (j : Nat) => tp (j + ap)) (fun (j : Nat) => vp (j + ap)) j)
 j)))
 (fun (j : Nat) =>
 Prod.snd
 (Prod.snd
 (S.at'
 (S.mkl (S.mdN np) fun (j : Nat) =>
 S.mdR np (fun (j : Nat) => tp (j + ap)) (fun (j : Nat) => vp (j + ap)) j)
 j)))
 (List.length (S.mkl (S.mdN np) fun (j : Nat) => S.mdB ones j))
 (fun (j : Nat) =>
 S.at' (S.mkl (S.mdN np) fun (j : Nat) => S.mdB ones j) j)
 (List.length (S.mkl nl fun (j : Nat) => S.inp (tl (j + al)))) fun (j : Nat) =>
 S.at' (S.mkl nl fun (j : Nat) => S.inp (tl (j + al))) j)))
 j)))) &&
 decide
 ((S.mkl
 (List.length
 (Prod.snd
 (Prod.snd
 (S.histS
 (List.length
 (S.mkl (S.mdN np) fun (j : Nat) =>
 S.mdR np (fun (j : Nat) => tp (j + ap)) (fun (j : Nat) => vp (j + ap)) j))
 (fun (j : Nat) =>
 Prod.fst
 (S.at'
 (S.mkl (S.mdN np) fun (j : Nat) =>
 S.mdR np (fun (j : Nat) => tp (j + ap)) (fun (j : Nat) => vp (j + ap)) j)
 j))
 (fun (j : Nat) =>
 Prod.fst
 (Prod.snd
 (S.at'
 (S.mkl (S.mdN np) fun (j : Nat) =>
 S.mdR np (fun (j : Nat) => tp (j + ap)) (fun (j : Nat) => vp (j + ap)) j)
 j)))
 (fun (j : Nat) =>
 Prod.snd
 (Prod.snd
 (S.at'
 (S.mkl (S.mdN np) fun (j : Nat) =>
 S.mdR np (fun (j : Nat) => tp (j + ap)) (fun (j : Nat) => vp (j + ap)) j)
 j)))
 (List.length (S.mkl (S.mdN np) fun (j : Nat) => S.mdB o j))
 (fun (j : Nat) => S.at' (S.mkl (S.mdN np) fun (j : Nat) => S.mdB o j) j)
 (List.length (S.mkl nl fun (j : Nat) => S.inp (tl (j + al)))) fun (j : Nat) =>
 S.at' (S.mkl nl fun (j : Nat) => S.inp (tl (j + al))) j))))
 fun (j : Nat) =>
 S.at'
 (Prod.snd
 (Prod.snd
 (S.histS
 (List.length
 (S.mkl (S.mdN np) fun (j : Nat) =>
 S.mdR np (fun (j : Nat) => tp (j + ap)) (fun (j : Nat) => vp (j + ap)) j))
 (fun (j : Nat) =>
 Prod.fst
 (S.at'
 (S.mkl (S.mdN np) fun (j : Nat) =>
 S.mdR np (fun (j : Nat) => tp (j + ap)) (fun (j : Nat) => vp (j + ap)) j)
 j))
 (fun (j : Nat) =>
 Prod.fst
 (Prod.snd
 (S.at'
 (S.mkl (S.mdN np) fun (j : Nat) =>
 S.mdR np (fun (j : Nat) => tp (j + ap)) (fun (j : Nat) => vp (j + ap)) j)
 j)))
 (fun (j : Nat) =>
 Prod.snd
 (Prod.snd
 (S.at'
 (S.mkl (S.mdN np) fun (j : Nat) =>
 S.mdR np (fun (j : Nat) => tp (j + ap)) (fun (j : Nat) => vp (j + ap)) j)
 j)))
 (List.length (S.mkl (S.mdN np) fun (j : Nat) => S.mdB o j))
 (fun (j : Nat) => S.at' (S.mkl (S.mdN np) fun (j : Nat) => S.mdB o j) j)
 (List.length (S.mkl nl fun (j : Nat) => S.inp (tl (j + al)))) fun (j : Nat) =>
 S.at' (S.mkl nl fun (j : Nat) => S.inp (tl (j + al))) j)))
 j) =
 S.mkl
 (List.length
 (Prod.snd
 (Prod.snd
 (S.histS
 (List.length
 (S.mkl (S.mdN np) fun (j : Nat) =>
 S.mdR np (fun (j : Nat) => tp (j + ap)) (fun (j : Nat) => vp (j + ap)) j))
 (fun (j : Nat) =>
 Prod.fst
 (S.at'
 (S.mkl (S.mdN np) fun (j : Nat) =>
 S.mdR np (fun (j : Nat) => tp (j + ap)) (fun (j : Nat) => vp (j + ap)) j)
 j))
 (fun (j : Nat) =>
 Prod.fst
 (Prod.snd
 (S.at'
 (S.mkl (S.mdN np) fun (j : Nat) =>
 S.mdR np (fun (j : Nat) => tp (j + ap)) (fun (j : Nat) => vp (j + ap)) j)
 j)))
 (fun (j : Nat) =>
 Prod.snd
 (Prod.snd
 (S.at'
 (S.mkl (S.mdN np) fun (j : Nat) =>
 S.mdR np (fun (j : Nat) => tp (j + ap)) (fun (j : Nat) => vp (j + ap)) j)
 j)))
 (List.length (S.mkl (S.mdN np) fun (j : Nat) => S.mdB ones j))
 (fun (j : Nat) => S.at' (S.mkl (S.mdN np) fun (j : Nat) => S.mdB ones j) j)
 (List.length (S.mkl nl fun (j : Nat) => S.inp (tl (j + al)))) fun (j : Nat) =>
 S.at' (S.mkl nl fun (j : Nat) => S.inp (tl (j + al))) j))))
 fun (j : Nat) =>
 S.at'
 (Prod.snd
 (Prod.snd
 (S.histS
 (List.length
 (S.mkl (S.mdN np) fun (j : Nat) =>
 S.mdR np (fun (j : Nat) => tp (j + ap)) (fun (j : Nat) => vp (j + ap)) j))
 (fun (j : Nat) =>
 Prod.fst
 (S.at'
 (S.mkl (S.mdN np) fun (j : Nat) =>
 S.mdR np (fun (j : Nat) => tp (j + ap)) (fun (j : Nat) => vp (j + ap)) j)
 j))
 (fun (j : Nat) =>
 Prod.fst
 (Prod.snd
 (S.at'
 (S.mkl (S.mdN np) fun (j : Nat) =>
 S.mdR np (fun (j : Nat) => tp (j + ap)) (fun (j : Nat) => vp (j + ap)) j)
 j)))
 (fun (j : Nat) =>
 Prod.snd
 (Prod.snd
 (S.at'
 (S.mkl (S.mdN np) fun (j : Nat) =>
 S.mdR np (fun (j : Nat) => tp (j + ap)) (fun (j : Nat) => vp (j + ap)) j)
 j)))
 (List.length (S.mkl (S.mdN np) fun (j : Nat) => S.mdB ones j))
 (fun (j : Nat) => S.at' (S.mkl (S.mdN np) fun (j : Nat) => S.mdB ones j) j)
 (List.length (S.mkl nl fun (j : Nat) => S.inp (tl (j + al)))) fun (j : Nat) =>
 S.at' (S.mkl nl fun (j : Nat) => S.inp (tl (j + al))) j)))
 j))
 then (some (.inr (true)))
 else (some (.inr (false))))
 else (none))
 else (some (.inr (false))))
 else (none)))))))
 else (none))
 else (none))
 else (none))
 else (bif (decide
 (0 +
 List.length
 (S.mkl (S.mdN np) fun (j : Nat) =>
 S.mdR np (fun (j : Nat) => tp (j + ap)) (fun (j : Nat) => vp (j + ap)) j) ≤
 List.length
 (S.mkl (S.mdN np) fun (j : Nat) =>
 S.mdR np (fun (j : Nat) => tp (j + ap)) (fun (j : Nat) => vp (j + ap)) j) ∧
 List.length
 (S.mkl (S.mdN np) fun (j : Nat) =>
 S.mdR np (fun (j : Nat) => tp (j + ap)) (fun (j : Nat) => vp (j + ap)) j) ≤
 1000000 ∧
 0 + List.length (S.mkl (S.mdN np) fun (j : Nat) => S.mdB ones j) ≤
 List.length (S.mkl (S.mdN np) fun (j : Nat) => S.mdB ones j) ∧
 List.length (S.mkl (S.mdN np) fun (j : Nat) => S.mdB ones j) ≤ 1000000 ∧
 0 + List.length (S.mkl nl fun (j : Nat) => S.inp (tl (j + al))) ≤
 List.length (S.mkl nl fun (j : Nat) => S.inp (tl (j + al))) ∧
 List.length (S.mkl nl fun (j : Nat) => S.inp (tl (j + al))) ≤ 1000000))
 then (bif (decide
 (0 +
 List.length
 (S.mkl (S.mdN np) fun (j : Nat) =>
 S.mdR np (fun (j : Nat) => tp (j + ap)) (fun (j : Nat) => vp (j + ap)) j) ≤
 List.length
 (S.mkl (S.mdN np) fun (j : Nat) =>
 S.mdR np (fun (j : Nat) => tp (j + ap)) (fun (j : Nat) => vp (j + ap)) j) ∧
 List.length
 (S.mkl (S.mdN np) fun (j : Nat) =>
 S.mdR np (fun (j : Nat) => tp (j + ap)) (fun (j : Nat) => vp (j + ap)) j) ≤
 1000000 ∧
 0 + List.length (S.mkl (S.mdN np) fun (j : Nat) => S.mdB (0 : Int) j) ≤
 List.length (S.mkl (S.mdN np) fun (j : Nat) => S.mdB (0 : Int) j) ∧
 List.length (S.mkl (S.mdN np) fun (j : Nat) => S.mdB (0 : Int) j) ≤ 1000000 ∧
 0 + List.length (S.mkl nl fun (j : Nat) => S.inp (tl (j + al))) ≤
 List.length (S.mkl nl fun (j : Nat) => S.inp (tl (j + al))) ∧
 List.length (S.mkl nl fun (j : Nat) => S.inp (tl (j + al))) ≤ 1000000))
 then (bif (decide
 (0 +
 List.length
 (S.mkl (S.mdN np) fun (j : Nat) =>
 S.mdR np (fun (j : Nat) => tp (j + ap)) (fun (j : Nat) => vp (j + ap)) j) ≤
 List.length
 (S.mkl (S.mdN np) fun (j : Nat) =>
 S.mdR np (fun (j : Nat) => tp (j + ap)) (fun (j : Nat) => vp (j + ap)) j) ∧
 List.length
 (S.mkl (S.mdN np) fun (j : Nat) =>
 S.mdR np (fun (j : Nat) => tp (j + ap)) (fun (j : Nat) => vp (j + ap)) j) ≤
 1000000 ∧
 0 + List.length (S.mkl (S.mdN np) fun (j : Nat) => S.mdB (4095 : Int) j) ≤
 List.length (S.mkl (S.mdN np) fun (j : Nat) => S.mdB (4095 : Int) j) ∧
 List.length (S.mkl (S.mdN np) fun (j : Nat) => S.mdB (4095 : Int) j) ≤ 1000000 ∧
 0 + List.length (S.mkl nl fun (j : Nat) => S.inp (tl (j + al))) ≤
 List.length (S.mkl nl fun (j : Nat) => S.inp (tl (j + al))) ∧
 List.length (S.mkl nl fun (j : Nat) => S.inp (tl (j + al))) ≤ 1000000))
 then (bif (Prod.snd
 (S.erS
 (List.length
 (S.mkl (S.mdN np) fun (j : Nat) =>
 S.mdR np (fun (j : Nat) => tp (j + ap)) (fun (j : Nat) => vp (j + ap)) j))
 (fun (j : Nat) =>
 Prod.fst
 (S.at'
 (S.mkl (S.mdN np) fun (j : Nat) =>
 S.mdR np (fun (j : Nat) => tp (j + ap)) (fun (j : Nat) => vp (j + ap)) j)
 j))
 (fun (j : Nat) =>
 Prod.fst
 (Prod.snd
 (S.at'
 (S.mkl (S.mdN np) fun (j : Nat) =>
 S.mdR np (fun (j : Nat) => tp (j + ap)) (fun (j : Nat) => vp (j + ap)) j)
 j)))
 (fun (j : Nat) =>
 Prod.snd
 (Prod.snd
 (S.at'
 (S.mkl (S.mdN np) fun (j : Nat) =>
 S.mdR np (fun (j : Nat) => tp (j + ap)) (fun (j : Nat) => vp (j + ap)) j)
 j)))
 (List.length (S.mkl (S.mdN np) fun (j : Nat) => S.mdB o j))
 (List.length (S.mkl nl fun (j : Nat) => S.inp (tl (j + al)))) fun (j : Nat) =>
 S.at' (S.mkl nl fun (j : Nat) => S.inp (tl (j + al))) j) !=
 (0 : Int))
 then (some (.inr (false)))
 else (bif (Prod.fst
 (S.histS
 (List.length
 (S.mkl (S.mdN np) fun (j : Nat) =>
 S.mdR np (fun (j : Nat) => tp (j + ap)) (fun (j : Nat) => vp (j + ap)) j))
 (fun (j : Nat) =>
 Prod.fst
 (S.at'
 (S.mkl (S.mdN np) fun (j : Nat) =>
 S.mdR np (fun (j : Nat) => tp (j + ap)) (fun (j : Nat) => vp (j + ap)) j)
 j))
 (fun (j : Nat) =>
 Prod.fst
 (Prod.snd
 (S.at'
 (S.mkl (S.mdN np) fun (j : Nat) =>
 S.mdR np (fun (j : Nat) => tp (j + ap)) (fun (j : Nat) => vp (j + ap)) j)
 j)))
 (fun (j : Nat) =>
 Prod.snd
 (Prod.snd
 (S.at'
 (S.mkl (S.mdN np) fun (j : Nat) =>
 S.mdR np (fun (j : Nat) => tp (j + ap)) (fun (j : Nat) => vp (j + ap)) j)
 j)))
 (List.length (S.mkl (S.mdN np) fun (j : Nat) => S.mdB o j))
 (fun (j : Nat) => S.at' (S.mkl (S.mdN np) fun (j : Nat) => S.mdB o j) j)
 (List.length (S.mkl nl fun (j : Nat) => S.inp (tl (j + al)))) fun (j : Nat) =>
 S.at' (S.mkl nl fun (j : Nat) => S.inp (tl (j + al))) j) !=
 (0 : Int))
 then (some (.inr (false)))
 else (bif (Prod.fst
 (S.histS
 (List.length
 (S.mkl (S.mdN np) fun (j : Nat) =>
 S.mdR np (fun (j : Nat) => tp (j + ap)) (fun (j : Nat) => vp (j + ap)) j))
 (fun (j : Nat) =>
 Prod.fst
 (S.at'
 (S.mkl (S.mdN np) fun (j : Nat) =>
 S.mdR np (fun (j : Nat) => tp (j + ap)) (fun (j : Nat) => vp (j + ap)) j)
 j))
 (fun (j : Nat) =>
 Prod.fst
 (Prod.snd
 (S.at'
 (S.mkl (S.mdN np) fun (j : Nat) =>
 S.mdR np (fun (j : Nat) => tp (j + ap)) (fun (j : Nat) => vp (j + ap)) j)
 j)))
 (fun (j : Nat) =>
 Prod.snd
 (Prod.snd
 (S.at'
 (S.mkl (S.mdN np) fun (j : Nat) =>
 S.mdR np (fun (j : Nat) => tp (j + ap)) (fun (j : Nat) => vp (j + ap)) j)
 j)))
 (List.length (S.mkl (S.mdN np) fun (j : Nat) => S.mdB ones j))
 (fun (j : Nat) => S.at' (S.mkl (S.mdN np) fun (j : Nat) => S.mdB ones j) j)
 (List.length (S.mkl nl fun (j : Nat) => S.inp (tl (j + al)))) fun (j : Nat) =>
 S.at' (S.mkl nl fun (j : Nat) => S.inp (tl (j + al))) j) !=
 (0 : Int))
 then (some (.inr (false)))
 else (bif (Prod.fst
 (S.histS
 (List.length
 (S.mkl (S.mdN np) fun (j : Nat) =>
 S.mdR np (fun (j : Nat) => tp (j + ap)) (fun (j : Nat) => vp (j + ap)) j))
 (fun (j : Nat) =>
 Prod.fst
 (S.at'
 (S.mkl (S.mdN np) fun (j : Nat) =>
 S.mdR np (fun (j : Nat) => tp (j + ap)) (fun (j : Nat) => vp (j + ap)) j)
 j))
 (fun (j : Nat) =>
 Prod.fst
 (Prod.snd
 (S.at'
 (S.mkl (S.mdN np) fun (j : Nat) =>
 S.mdR np (fun (j : Nat) => tp (j + ap)) (fun (j : Nat) => vp (j + ap)) j)
 j)))
 (fun (j : Nat) =>
 Prod.snd
 (Prod.snd
 (S.at'
 (S.mkl (S.mdN np) fun (j : Nat) =>
 S.mdR np (fun (j : Nat) => tp (j + ap)) (fun (j : Nat) => vp (j + ap)) j)
 j)))
 (List.length (S.mkl (S.mdN np) fun (j : Nat) => S.mdB (0 : Int) j))
 (fun (j : Nat) => S.at' (S.mkl (S.mdN np) fun (j : Nat) => S.mdB (0 : Int) j) j)
 (List.length (S.mkl nl fun (j : Nat) => S.inp (tl (j + al)))) fun (j : Nat) =>
 S.at' (S.mkl nl fun (j : Nat) => S.inp (tl (j + al))) j) !=
 (0 : Int))
 then (some (.inr (false)))
 else (bif (Prod.fst
 (S.histS
 (List.length
 (S.mkl (S.mdN np) fun (j : Nat) =>
 S.mdR np (fun (j : Nat) => tp (j + ap)) (fun (j : Nat) => vp (j + ap)) j))
 (fun (j : Nat) =>
 Prod.fst
 (S.at'
 (S.mkl (S.mdN np) fun (j : Nat) =>
 S.mdR np (fun (j : Nat) => tp (j + ap)) (fun (j : Nat) => vp (j + ap)) j)
 j))
 (fun (j : Nat) =>
 Prod.fst
 (Prod.snd
 (S.at'
 (S.mkl (S.mdN np) fun (j : Nat) =>
 S.mdR np (fun (j : Nat) => tp (j + ap)) (fun (j : Nat) => vp (j + ap)) j)
 j)))
 (fun (j : Nat) =>
 Prod.snd
 (Prod.snd
 (S.at'
 (S.mkl (S.mdN np) fun (j : Nat) =>
 S.mdR np (fun (j : Nat) => tp (j + ap)) (fun (j : Nat) => vp (j + ap)) j)
 j)))
 (List.length (S.mkl (S.mdN np) fun (j : Nat) => S.mdB (4095 : Int) j))
 (fun (j : Nat) => S.at' (S.mkl (S.mdN np) fun (j : Nat) => S.mdB (4095 : Int) j) j)
 (List.length (S.mkl nl fun (j : Nat) => S.inp (tl (j + al)))) fun (j : Nat) =>
 S.at' (S.mkl nl fun (j : Nat) => S.inp (tl (j + al))) j) !=
 (0 : Int))
 then (some (.inr (false)))
 else (bif (decide
 (0 +
 List.length
 (Prod.fst
 (Prod.snd
 (S.histS
 (List.length
 (S.mkl (S.mdN np) fun (j : Nat) =>
 S.mdR np (fun (j : Nat) => tp (j + ap)) (fun (j : Nat) => vp (j + ap)) j))
 (fun (j : Nat) =>
 Prod.fst
 (S.at'
 (S.mkl (S.mdN np) fun (j : Nat) =>
 S.mdR np (fun (j : Nat) => tp (j + ap)) (fun (j : Nat) => vp (j + ap)) j)
 j))
 (fun (j : Nat) =>
 Prod.fst
 (Prod.snd
 (S.at'
 (S.mkl (S.mdN np) fun (j : Nat) =>
 S.mdR np (fun (j : Nat) => tp (j + ap)) (fun (j : Nat) => vp (j + ap)) j)
 j)))
 (fun (j : Nat) =>
 Prod.snd
 (Prod.snd
 (S.at'
 (S.mkl (S.mdN np) fun (j : Nat) =>
 S.mdR np (fun (j : Nat) => tp (j + ap)) (fun (j : Nat) => vp (j + ap)) j)
 j)))
 (List.length (S.mkl (S.mdN np) fun (j : Nat) => S.mdB (0 : Int) j))
 (fun (j : Nat) => S.at' (S.mkl (S.mdN np) fun (j : Nat) => S.mdB (0 : Int) j) j)
 (List.length (S.mkl nl fun (j : Nat) => S.inp (tl (j + al)))) fun (j : Nat) =>
 S.at' (S.mkl nl fun (j : Nat) => S.inp (tl (j + al))) j))) ≤
 List.length
 (Prod.fst
 (Prod.snd
 (S.histS
 (List.length
 (S.mkl (S.mdN np) fun (j : Nat) =>
 S.mdR np (fun (j : Nat) => tp (j + ap)) (fun (j : Nat) => vp (j + ap)) j))
 (fun (j : Nat) =>
 Prod.fst
 (S.at'
 (S.mkl (S.mdN np) fun (j : Nat) =>
 S.mdR np (fun (j : Nat) => tp (j + ap)) (fun (j : Nat) => vp (j + ap)) j)
 j))
 (fun (j : Nat) =>
 Prod.fst
 (Prod.snd
 (S.at'
 (S.mkl (S.mdN np) fun (j : Nat) =>
 S.mdR np (fun (j : Nat) => tp (j + ap)) (fun (j : Nat) => vp (j + ap)) j)
 j)))
 (fun (j : Nat) =>
 Prod.snd
 (Prod.snd
 (S.at'
 (S.mkl (S.mdN np) fun (j : Nat) =>
 S.mdR np (fun (j : Nat) => tp (j + ap)) (fun (j : Nat) => vp (j + ap)) j)
 j)))
 (List.length (S.mkl (S.mdN np) fun (j : Nat) => S.mdB (0 : Int) j))
 (fun (j : Nat) => S.at' (S.mkl (S.mdN np) fun (j : Nat) => S.mdB (0 : Int) j) j)
 (List.length (S.mkl nl fun (j : Nat) => S.inp (tl (j + al)))) fun (j : Nat) =>
 S.at' (S.mkl nl fun (j : Nat) => S.inp (tl (j + al))) j))) ∧
 List.length
 (Prod.fst
 (Prod.snd
 (S.histS
 (List.length
 (S.mkl (S.mdN np) fun (j : Nat) =>
 S.mdR np (fun (j : Nat) => tp (j + ap)) (fun (j : Nat) => vp (j + ap)) j))
 (fun (j : Nat) =>
 Prod.fst
 (S.at'
 (S.mkl (S.mdN np) fun (j : Nat) =>
 S.mdR np (fun (j : Nat) => tp (j + ap)) (fun (j : Nat) => vp (j + ap)) j)
 j))
 (fun (j : Nat) =>
 Prod.fst
 (Prod.snd
 (S.at'
 (S.mkl (S.mdN np) fun (j : Nat) =>
 S.mdR np (fun (j : Nat) => tp (j + ap)) (fun (j : Nat) => vp (j + ap)) j)
 j)))
 (fun (j : Nat) =>
 Prod.snd
 (Prod.snd
 (S.at'
 (S.mkl (S.mdN np) fun (j : Nat) =>
 S.mdR np (fun (j : Nat) => tp (j + ap)) (fun (j : Nat) => vp (j + ap)) j)
 j)))
 (List.length (S.mkl (S.mdN np) fun (j : Nat) => S.mdB (0 : Int) j))
 (fun (j : Nat) => S.at' (S.mkl (S.mdN np) fun (j : Nat) => S.mdB (0 : Int) j) j)
 (List.length (S.mkl nl fun (j : Nat) => S.inp (tl (j + al)))) fun (j : Nat) =>
 S.at' (S.mkl nl fun (j : Nat) => S.inp (tl (j + al))) j))) ≤
 1000000 ∧
 0 +
 List.length
 (Prod.snd
 (Prod.snd
 (S.histS
 (List.length
 (S.mkl (S.mdN np) fun (j : Nat) =>
 S.mdR np (fun (j : Nat) => tp (j + ap)) (fun (j : Nat) => vp (j + ap)) j))
 (fun (j : Nat) =>
 Prod.fst
 (S.at'
 (S.mkl (S.mdN np) fun (j : Nat) =>
 S.mdR np (fun (j : Nat) => tp (j + ap)) (fun (j : Nat) => vp (j + ap)) j)
 j))
 (fun (j : Nat) =>
 Prod.fst
 (Prod.snd
 (S.at'
 (S.mkl (S.mdN np) fun (j : Nat) =>
 S.mdR np (fun (j : Nat) => tp (j + ap)) (fun (j : Nat) => vp (j + ap)) j)
 j)))
 (fun (j : Nat) =>
 Prod.snd
 (Prod.snd
 (S.at'
 (S.mkl (S.mdN np) fun (j : Nat) =>
 S.mdR np (fun (j : Nat) => tp (j + ap)) (fun (j : Nat) => vp (j + ap)) j)
 j)))
 (List.length (S.mkl (S.mdN np) fun (j : Nat) => S.mdB (0 : Int) j))
 (fun (j : Nat) =>
 S.at' (S.mkl (S.mdN np) fun (j : Nat) => S.mdB (0 : Int) j) j)
 (List.length (S.mkl nl fun (j : Nat) => S.inp (tl (j + al)))) fun (j : Nat) =>
 S.at' (S.mkl nl fun (j : Nat) => S.inp (tl (j + al))) j))) ≤
 List.length
 (Prod.snd
 (Prod.snd
 (S.histS
 (List.length
 (S.mkl (S.mdN np) fun (j : Nat) =>
 S.mdR np (fun (j : Nat) => tp (j + ap)) (fun (j : Nat) => vp (j + ap)) j))
 (fun (j : Nat) =>
 Prod.fst
 (S.at'
 (S.mkl (S.mdN np) fun (j : Nat) =>
 S.mdR np (fun (j : Nat) => tp (j + ap)) (fun (j : Nat) => vp (j + ap)) j)
 j))
 (fun (j : Nat) =>
 Prod.fst
 (Prod.snd
 (S.at'
 (S.mkl (S.mdN np) fun (j : Nat) =>
 S.mdR np (fun (j : Nat) => tp (j + ap)) (fun (j : Nat) => vp (j + ap)) j)
 j)))
 (fun (j : Nat) =>
 Prod.snd
 (Prod.snd
 (S.at'
 (S.mkl (S.mdN np) fun (j : Nat) =>
 S.mdR np (fun (j : Nat) => tp (j + ap)) (fun (j : Nat) => vp (j + ap)) j)
 j)))
 (List.length (S.mkl (S.mdN np) fun (j : Nat) => S.mdB (0 : Int) j))
 (fun (j : Nat) =>
 S.at' (S.mkl (S.mdN np) fun (j : Nat) => S.mdB (0 : Int) j) j)
 (List.length (S.mkl nl fun (j : Nat) => S.inp (tl (j + al)))) fun (j : Nat) =>
 S.at' (S.mkl nl fun (j : Nat) => S.inp (tl (j + al))) j))) ∧
 List.length
 (Prod.snd
 (Prod.snd
 (S.histS
 (List.length
 (S.mkl (S.mdN np) fun (j : Nat) =>
 S.mdR np (fun (j : Nat) => tp (j + ap)) (fun (j : Nat) => vp (j + ap)) j))
 (fun (j : Nat) =>
 Prod.fst
 (S.at'
 (S.mkl (S.mdN np) fun (j : Nat) =>
 S.mdR np (fun (j : Nat) => tp (j + ap)) (fun (j : Nat) => vp (j + ap)) j)
 j))
 (fun (j : Nat) =>
 Prod.fst
 (Prod.snd
 (S.at'
 (S.mkl (S.mdN np) fun (j : Nat) =>
 S.mdR np (fun (j : Nat) => tp (j + ap)) (fun (j : Nat) => vp (j + ap)) j)
 j)))
 (fun (j : Nat) =>
 Prod.snd
 (Prod.snd
 (S.at'
 (S.mkl (S.mdN np) fun (j : Nat) =>
 S.mdR np (fun (j : Nat) => tp (j + ap)) (fun (j : Nat) => vp (j + ap)) j)
 j)))
 (List.length (S.mkl (S.mdN np) fun (j : Nat) => S.mdB (0 : Int) j))
 (fun (j : Nat) =>
 S.at' (S.mkl (S.mdN np) fun (j : Nat) => S.mdB (0 : Int) j) j)
 (List.length (S.mkl nl fun (j : Nat) => S.inp (tl (j + al)))) fun (j : Nat) =>
 S.at' (S.mkl nl fun (j : Nat) => S.inp (tl (j + al))) j))) ≤
 1000000 ∧
 0 +
 List.length
 (Prod.fst
 (Prod.snd
 (S.histS
 (List.length
 (S.mkl (S.mdN np) fun (j : Nat) =>
 S.mdR np (fun (j : Nat) => tp (j + ap)) (fun (j : Nat) => vp (j + ap)) j))
 (fun (j : Nat) =>
 Prod.fst
 (S.at'
 (S.mkl (S.mdN np) fun (j : Nat) =>
 S.mdR np (fun (j : Nat) => tp (j + ap)) (fun (j : Nat) => vp (j + ap)) j)
 j))
 (fun (j : Nat) =>
 Prod.fst
 (Prod.snd
 (S.at'
 (S.mkl (S.mdN np) fun (j : Nat) =>
 S.mdR np (fun (j : Nat) => tp (j + ap)) (fun (j : Nat) => vp (j + ap)) j)
 j)))
 (fun (j : Nat) =>
 Prod.snd
 (Prod.snd
 (S.at'
 (S.mkl (S.mdN np) fun (j : Nat) =>
 S.mdR np (fun (j : Nat) => tp (j + ap)) (fun (j : Nat) => vp (j + ap)) j)
 j)))
 (List.length (S.mkl (S.mdN np) fun (j : Nat) => S.mdB (4095 : Int) j))
 (fun (j : Nat) =>
 S.at' (S.mkl (S.mdN np) fun (j : Nat) => S.mdB (4095 : Int) j) j)
 (List.length (S.mkl nl fun (j : Nat) => S.inp (tl (j + al)))) fun (j : Nat) =>
 S.at' (S.mkl nl fun (j : Nat) => S.inp (tl (j + al))) j))) ≤
 List.length
 (Prod.fst
 (Prod.snd
 (S.histS
 (List.length
 (S.mkl (S.mdN np) fun (j : Nat) =>
 S.mdR np (fun (j : Nat) => tp (j + ap)) (fun (j : Nat) => vp (j + ap)) j))
 (fun (j : Nat) =>
 Prod.fst
 (S.at'
 (S.mkl (S.mdN np) fun (j : Nat) =>
 S.mdR np (fun (j : Nat) => tp (j + ap)) (fun (j : Nat) => vp (j + ap)) j)
 j))
 (fun (j : Nat) =>
 Prod.fst
 (Prod.snd
 (S.at'
 (S.mkl (S.mdN np) fun (j : Nat) =>
 S.mdR np (fun (j : Nat) => tp (j + ap)) (fun (j : Nat) => vp (j + ap)) j)
 j)))
 (fun (j : Nat) =>
 Prod.snd
 (Prod.snd
 (S.at'
 (S.mkl (S.mdN np) fun (j : Nat) =>
 S.mdR np (fun (j : Nat) => tp (j + ap)) (fun (j : Nat) => vp (j + ap)) j)
 j)))
 (List.length (S.mkl (S.mdN np) fun (j : Nat) => S.mdB (4095 : Int) j))
 (fun (j : Nat) =>
 S.at' (S.mkl (S.mdN np) fun (j : Nat) => S.mdB (4095 : Int) j) j)
 (List.length (S.mkl nl fun (j : Nat) => S.inp (tl (j + al)))) fun (j : Nat) =>
 S.at' (S.mkl nl fun (j : Nat) => S.inp (tl (j + al))) j))) ∧
 List.length
 (Prod.fst
 (Prod.snd
 (S.histS
 (List.length
 (S.mkl (S.mdN np) fun (j : Nat) =>
 S.mdR np (fun (j : Nat) => tp (j + ap)) (fun (j : Nat) => vp (j + ap)) j))
 (fun (j : Nat) =>
 Prod.fst
 (S.at'
 (S.mkl (S.mdN np) fun (j : Nat) =>
 S.mdR np (fun (j : Nat) => tp (j + ap)) (fun (j : Nat) => vp (j + ap)) j)
 j))
 (fun (j : Nat) =>
 Prod.fst
 (Prod.snd
 (S.at'
 (S.mkl (S.mdN np) fun (j : Nat) =>
 S.mdR np (fun (j : Nat) => tp (j + ap)) (fun (j : Nat) => vp (j + ap)) j)
 j)))
 (fun (j : Nat) =>
 Prod.snd
 (Prod.snd
 (S.at'
 (S.mkl (S.mdN np) fun (j : Nat) =>
 S.mdR np (fun (j : Nat) => tp (j + ap)) (fun (j : Nat) => vp (j + ap)) j)
 j)))
 (List.length (S.mkl (S.mdN np) fun (j : Nat) => S.mdB (4095 : Int) j))
 (fun (j : Nat) =>
 S.at' (S.mkl (S.mdN np) fun (j : Nat) => S.mdB (4095 : Int) j) j)
 (List.length (S.mkl nl fun (j : Nat) => S.inp (tl (j + al)))) fun (j : Nat) =>
 S.at' (S.mkl nl fun (j : Nat) => S.inp (tl (j + al))) j))) ≤
 1000000 ∧
 0 +
 List.length
 (Prod.snd
 (Prod.snd
 (S.histS
 (List.length
 (S.mkl (S.mdN np) fun (j : Nat) =>
 S.mdR np (fun (j : Nat) => tp (j + ap)) (fun (j : Nat) => vp (j + ap)) j))
 (fun (j : Nat) =>
 Prod.fst
 (S.at'
 (S.mkl (S.mdN np) fun (j : Nat) =>
 S.mdR np (fun (j : Nat) => tp (j + ap)) (fun (j : Nat) => vp (j + ap)) j)
 j))
 (fun (j : Nat) =>
 Prod.fst
 (Prod.snd
 (S.at'
 (S.mkl (S.mdN np) fun (j : Nat) =>
 S.mdR np (fun (j : Nat) => tp (j + ap)) (fun (j : Nat) => vp (j + ap)) j)
 j)))
 (fun (j : Nat) =>
 Prod.snd
 (Prod.snd
 (S.at'
 (S.mkl (S.mdN np) fun (j : Nat) =>
 S.mdR np (fun (j : Nat) => tp (j + ap)) (fun (j : Nat) => vp (j + ap)) j)
 j)))
 (List.length (S.mkl (S.mdN np) fun (j : Nat) => S.mdB (4095 : Int) j))
 (fun (j : Nat) =>
 S.at' (S.mkl (S.mdN np) fun (j : Nat) => S.mdB (4095 : Int) j) j)
 (List.length (S.mkl nl fun (j : Nat) => S.inp (tl (j + al)))) fun (j : Nat) =>
 S.at' (S.mkl nl fun (j : Nat) => S.inp (tl (j + al))) j))) ≤
 List.length
 (Prod.snd
 (Prod.snd
 (S.histS
 (List.length
 (S.mkl (S.mdN np) fun (j : Nat) =>
 S.mdR np (fun (j : Nat) => tp (j + ap)) (fun (j : Nat) => vp (j + ap)) j))
 (fun (j : Nat) =>
 Prod.fst
 (S.at'
 (S.mkl (S.mdN np) fun (j : Nat) =>
 S.mdR np (fun (j : Nat) => tp (j + ap)) (fun (j : Nat) => vp (j + ap)) j)
 j))
 (fun (j : Nat) =>
 Prod.fst
 (Prod.snd
 (S.at'
 (S.mkl (S.mdN np) fun (j : Nat) =>
 S.mdR np (fun (j : Nat) => tp (j + ap)) (fun (j : Nat) => vp (j + ap)) j)
 j)))
 (fun (j : Nat) =>
 Prod.snd
 (Prod.snd
 (S.at'
 (S.mkl (S.mdN np) fun (j : Nat) =>
 S.mdR np (fun (j : Nat) => tp (j + ap)) (fun (j : Nat) => vp (j + ap)) j)
 j)))
 (List.length (S.mkl (S.mdN np) fun (j : Nat) => S.mdB (4095 : Int) j))
 (fun (j : Nat) =>
 S.at' (S.mkl (S.mdN np) fun (j : Nat) => S.mdB (4095 : Int) j) j)
 (List.length (S.mkl nl fun (j : Nat) => S.inp (tl (j + al)))) fun (j : Nat) =>
 S.at' (S.mkl nl fun (j : Nat) => S.inp (tl (j + al))) j))) ∧
 List.length
 (Prod.snd
 (Prod.snd
 (S.histS
 (List.length
 (S.mkl (S.mdN np) fun (j : Nat) =>
 S.mdR np (fun (j : Nat) => tp (j + ap)) (fun (j : Nat) => vp (j + ap)) j))
 (fun (j : Nat) =>
 Prod.fst
 (S.at'
 (S.mkl (S.mdN np) fun (j : Nat) =>
 S.mdR np (fun (j : Nat) => tp (j + ap)) (fun (j : Nat) => vp (j + ap)) j)
 j))
 (fun (j : Nat) =>
 Prod.fst
 (Prod.snd
 (S.at'
 (S.mkl (S.mdN np) fun (j : Nat) =>
 S.mdR np (fun (j : Nat) => tp (j + ap)) (fun (j : Nat) => vp (j + ap)) j)
 j)))
 (fun (j : Nat) =>
 Prod.snd
 (Prod.snd
 (S.at'
 (S.mkl (S.mdN np) fun (j : Nat) =>
 S.mdR np (fun (j : Nat) => tp (j + ap)) (fun (j : Nat) => vp (j + ap)) j)
 j)))
 (List.length (S.mkl (S.mdN np) fun (j : Nat) => S.mdB (4095 : Int) j))
 (fun (j : Nat) =>
 S.at' (S.mkl (S.mdN np) fun (j : Nat) => S.mdB (4095 : Int) j) j)
 (List.length (S.mkl nl fun (j : Nat) => S.inp (tl (j + al)))) fun (j : Nat) =>
 S.at' (S.mkl nl fun (j : Nat) => S.inp (tl (j + al))) j))) ≤
 1000000))
 then (bif (decide
 ((S.mkl
 (List.length
 (Prod.fst
 (Prod.snd
 (S.histS
 (List.length
 (S.mkl (S.mdN np) fun (j : Nat) =>
 S.mdR np (fun (j : Nat) => tp (j + ap)) (fun (j : Nat) => vp (j + ap)) j))
 (fun (j : Nat) =>
 Prod.fst
 (S.at'
 (S.mkl (S.mdN np) fun (j : Nat) =>
 S.mdR np (fun (j : Nat) => tp (j + ap)) (fun (j : Nat) => vp (j + ap)) j)
 j))
 (fun (j : Nat) =>
 Prod.fst
 (Prod.snd
 (S.at'
 (S.mkl (S.mdN np) fun (j : Nat) =>
 S.mdR np (fun (j : Nat) => tp (j + ap)) (fun (j : Nat) => vp (j + ap)) j)
 j)))
 (fun (j : Nat) =>
 Prod.snd
 (Prod.snd
 (S.at'
 (S.mkl (S.mdN np) fun (j : Nat) =>
 S.mdR np (fun (j : Nat) => tp (j + ap)) (fun (j : Nat) => vp (j + ap)) j)
 j)))
 (List.length (S.mkl (S.mdN np) fun (j : Nat) => S.mdB (0 : Int) j))
 (fun (j : Nat) => S.at' (S.mkl (S.mdN np) fun (j : Nat) => S.mdB (0 : Int) j) j)
 (List.length (S.mkl nl fun (j : Nat) => S.inp (tl (j + al)))) fun (j : Nat) =>
 S.at' (S.mkl nl fun (j : Nat) => S.inp (tl (j + al))) j))))
 fun (j : Nat) =>
 (Prod.fst
 (S.at'
 (Prod.fst
 (Prod.snd
 (S.histS
 (List.length
 (S.mkl (S.mdN np) fun (j : Nat) =>
 S.mdR np (fun (j : Nat) => tp (j + ap)) (fun (j : Nat) => vp (j + ap)) j))
 (fun (j : Nat) =>
 Prod.fst
 (S.at'
 (S.mkl (S.mdN np) fun (j : Nat) =>
 S.mdR np (fun (j : Nat) => tp (j + ap)) (fun (j : Nat) => vp (j + ap)) j)
 j))
 (fun (j : Nat) =>
 Prod.fst
 (Prod.snd
 (S.at'
 (S.mkl (S.mdN np) fun (j : Nat) =>
 S.mdR np (fun (j : Nat) => tp (j + ap)) (fun (j : Nat) => vp (j + ap)) j)
 j)))
 (fun (j : Nat) =>
 Prod.snd
 (Prod.snd
 (S.at'
 (S.mkl (S.mdN np) fun (j : Nat) =>
 S.mdR np (fun (j : Nat) => tp (j + ap)) (fun (j : Nat) => vp (j + ap)) j)
 j)))
 (List.length (S.mkl (S.mdN np) fun (j : Nat) => S.mdB (0 : Int) j))
 (fun (j : Nat) =>
 S.at' (S.mkl (S.mdN np) fun (j : Nat) => S.mdB (0 : Int) j) j)
 (List.length (S.mkl nl fun (j : Nat) => S.inp (tl (j + al)))) fun (j : Nat) =>
 S.at' (S.mkl nl fun (j : Nat) => S.inp (tl (j + al))) j)))
 j),
 Prod.fst
 (Prod.snd
 (S.at'
 (Prod.fst
 (Prod.snd
 (S.histS
 (List.length
 (S.mkl (S.mdN np) fun (j : Nat) =>
 S.mdR np (fun (j : Nat) => tp (j + ap)) (fun (j : Nat) => vp (j + ap)) j))
 (fun (j : Nat) =>
 Prod.fst
 (S.at'
 (S.mkl (S.mdN np) fun (j : Nat) =>
 S.mdR np (fun (j : Nat) => tp (j + ap)) (fun (j : Nat) => vp (j + ap)) j)
 j))
 (fun (j : Nat) =>
 Prod.fst
 (Prod.snd
 (S.at'
 (S.mkl (S.mdN np) fun (j : Nat) =>
 S.mdR np (fun (j : Nat) => tp (j + ap)) (fun (j : Nat) => vp (j + ap)) j)
 j)))
 (fun (j : Nat) =>
 Prod.snd
 (Prod.snd
 (S.at'
 (S.mkl (S.mdN np) fun (j : Nat) =>
 S.mdR np (fun (j : Nat) => tp (j + ap)) (fun (j : Nat) => vp (j + ap)) j)
 j)))
 (List.length (S.mkl (S.mdN np) fun (j : Nat) => S.mdB (0 : Int) j))
 (fun (j : Nat) =>
 S.at' (S.mkl (S.mdN np) fun (j : Nat) => S.mdB (0 : Int) j) j)
 (List.length (S.mkl nl fun (j : Nat) => S.inp (tl (j + al)))) fun (j : Nat) =>
 S.at' (S.mkl nl fun (j : Nat) => S.inp (tl (j + al))) j)))
 j)),
 Prod.snd
 (Prod.snd
 (S.at'
 (Prod.fst
 (Prod.snd
 (S.histS
 (List.length
 (S.mkl (S.mdN np) fun (j : Nat) =>
 S.mdR np (fun (j : Nat) => tp (j + ap)) (fun (j : Nat) => vp (j + ap)) j))
 (fun (j : Nat) =>
 Prod.fst
 (S.at'
 (S.mkl (S.mdN np) fun (j : Nat) =>
 S.mdR np (fun (j : Nat) => tp (j + ap)) (fun (j : Nat) => vp (j + ap)) j)
 j))
 (fun (j : Nat) =>
 Prod.fst
 (Prod.snd
 (S.at'
 (S.mkl (S.mdN np) fun (j : Nat) =>
 S.mdR np (fun (j : Nat) => tp (j + ap)) (fun (j : Nat) => vp (j + ap)) j)
 j)))
 (fun (j : Nat) =>
 Prod.snd
 (Prod.snd
 (S.at'
 (S.mkl (S.mdN np) fun (j : Nat) =>
 S.mdR np (fun (j : Nat) => tp (j + ap)) (fun (j : Nat) => vp (j + ap)) j)
 j)))
 (List.length (S.mkl (S.mdN np) fun (j : Nat) => S.mdB (0 : Int) j))
 (fun (j : Nat) =>
 S.at' (S.mkl (S.mdN np) fun (j : Nat) => S.mdB (0 : Int) j) j)
 (List.length (S.mkl nl fun (j : Nat) => S.inp (tl (j + al)))) fun (j : Nat) =>
 S.at' (S.mkl nl fun (j : Nat) => S.inp (tl (j + al))) j)))
 j)))) =
 S.mkl
 (List.length
 (Prod.fst
 (Prod.snd
 (S.histS
 (List.length
 (S.mkl (S.mdN np) fun (j : Nat) =>
 S.mdR np (fun (j : Nat) => tp (j + ap)) (fun (j : Nat) => vp (j + ap)) j))
 (fun (j : Nat) =>
 Prod.fst
 (S.at'
 (S.mkl (S.mdN np) fun (j : Nat) =>
 S.mdR np (fun (j : Nat) => tp (j + ap)) (fun (j : Nat) => vp (j + ap)) j)
 j))
 (fun (j : Nat) =>
 Prod.fst
 (Prod.snd
 (S.at'
 (S.mkl (S.mdN np) fun (j : Nat) =>
 S.mdR np (fun (j : Nat) => tp (j + ap)) (fun (j : Nat) => vp (j + ap)) j)
 j)))
 (fun (j : Nat) =>
 Prod.snd
 (Prod.snd
 (S.at'
 (S.mkl (S.mdN np) fun (j : Nat) =>
 S.mdR np (fun (j : Nat) => tp (j + ap)) (fun (j : Nat) => vp (j + ap)) j)
 j)))
 (List.length (S.mkl (S.mdN np) fun (j : Nat) => S.mdB (4095 : Int) j))
 (fun (j : Nat) =>
 S.at' (S.mkl (S.mdN np) fun (j : Nat) => S.mdB (4095 : Int) j) j)
 (List.length (S.mkl nl fun (j : Nat) => S.inp (tl (j + al)))) fun (j : Nat) =>
 S.at' (S.mkl nl fun (j : Nat) => S.inp (tl (j + al))) j))))
 fun (j : Nat) =>
 (Prod.fst
 (S.at'
 (Prod.fst
 (Prod.snd
 (S.histS
 (List.length
 (S.mkl (S.mdN np) fun (j : Nat) =>
 S.mdR np (fun (j : Nat) => tp (j + ap)) (fun (j : Nat) => vp (j + ap)) j))
 (fun (j : Nat) =>
 Prod.fst
 (S.at'
 (S.mkl (S.mdN np) fun (j : Nat) =>
 S.mdR np (fun (j : Nat) => tp (j + ap)) (fun (j : Nat) => vp (j + ap)) j)
 j))
 (fun (j : Nat) =>
 Prod.fst
 (Prod.snd
 (S.at'
 (S.mkl (S.mdN np) fun (j : Nat) =>
 S.mdR np (fun (j : Nat) => tp (j + ap)) (fun (j : Nat) => vp (j + ap)) j)
 j)))
 (fun (j : Nat) =>
 Prod.snd
 (Prod.snd
 (S.at'
 (S.mkl (S.mdN np) fun (j : Nat) =>
 S.mdR np (fun (j : Nat) => tp (j + ap)) (fun (j : Nat) => vp (j + ap)) j)
 j)))
 (List.length (S.mkl (S.mdN np) fun (j : Nat) => S.mdB (4095 : Int) j))
 (fun (j : Nat) =>
 S.at' (S.mkl (S.mdN np) fun (j : Nat) => S.mdB (4095 : Int) j) j)
 (List.length (S.mkl nl fun (j : Nat) => S.inp (tl (j + al)))) fun (j : Nat) =>
 S.at' (S.mkl nl fun (j : Nat) => S.inp (tl (j + al))) j)))
 j),
 Prod.fst
 (Prod.snd
 (S.at'
 (Prod.fst
 (Prod.snd
 (S.histS
 (List.length
 (S.mkl (S.mdN np) fun (j : Nat) =>
 S.mdR np (fun (j : Nat) => tp (j + ap)) (fun (j : Nat) => vp (j + ap)) j))
 (fun (j : Nat) =>
 Prod.fst
 (S.at'
 (S.mkl (S.mdN np) fun (j : Nat) =>
 S.mdR np (fun (j : Nat) => tp (j + ap)) (fun (j : Nat) => vp (j + ap)) j)
 j))
 (fun (j : Nat) =>
 Prod.fst
 (Prod.snd
 (S.at'
 (S.mkl (S.mdN np) fun (j : Nat) =>
 S.mdR np (fun (j : Nat) => tp (j + ap)) (fun (j : Nat) => vp (j + ap)) j)
 j)))
 (fun (j : Nat) =>
 Prod.snd
 (Prod.snd
 (S.at'
 (S.mkl (S.mdN np) fun (j : Nat) =>
 S.mdR np (fun (j : Nat) => tp (j + ap)) (fun (j : Nat) => vp (j + ap)) j)
 j)))
 (List.length (S.mkl (S.mdN np) fun (j : Nat) => S.mdB (4095 : Int) j))
 (fun (j : Nat) =>
 S.at' (S.mkl (S.mdN np) fun (j : Nat) => S.mdB (4095 : Int) j) j)
 (List.length (S.mkl nl fun (j : Nat) => S.inp (tl (j + al)))) fun (j : Nat) =>
 S.at' (S.mkl nl fun (j : Nat) => S.inp (tl (j + al))) j)))
 j)),
 Prod.snd
 (Prod.snd
 (S.at'
 (Prod.fst
 (Prod.snd
 (S.histS
 (List.length
 (S.mkl (S.mdN np) fun (j : Nat) =>
 S.mdR np (fun (j : Nat) => tp (j + ap)) (fun (j : Nat) => vp (j + ap)) j))
 (fun (j : Nat) =>
 Prod.fst
 (S.at'
 (S.mkl (S.mdN np) fun (j : Nat) =>
 S.mdR np (fun (j : Nat) => tp (j + ap)) (fun (j : Nat) => vp (j + ap)) j)
 j))
 (fun (j : Nat) =>
 Prod.fst
 (Prod.snd
 (S.at'
 (S.mkl (S.mdN np) fun (j : Nat) =>
 S.mdR np (fun (j : Nat) => tp (j + ap)) (fun (j : Nat) => vp (j + ap)) j)
 j)))
 (fun (j : Nat) =>
 Prod.snd
 (Prod.snd
 (S.at'
 (S.mkl (S.mdN np) fun (j : Nat) =>
 S.mdR np (fun (j : Nat) => tp (j + ap)) (fun (j : Nat) => vp (j + ap)) j)
 j)))
 (List.length (S.mkl (S.mdN np) fun (j : Nat) => S.mdB (4095 : Int) j))
 (fun (j : Nat) =>
 S.at' (S.mkl (S.mdN np) fun (j : Nat) => S.mdB (4095 : Int) j) j)
 (List.length (S.mkl nl fun (j : Nat) => S.inp (tl (j + al)))) fun (j : Nat) =>
 S.at' (S.mkl nl fun (j : Nat) => S.inp (tl (j + al))) j)))
 j)))) &&
 decide
 ((S.mkl
 (List.length
 (Prod.snd
 (Prod.snd
 (S.histS
 (List.length
 (S.mkl (S.mdN np) fun (j : Nat) =>
 S.mdR np (fun (j : Nat) => tp (j + ap)) (fun (j : Nat) => vp (j + ap)) j))
 (fun (j : Nat) =>
 Prod.fst
 (S.at'
 (S.mkl (S.mdN np) fun (j : Nat) =>
 S.mdR np (fun (j : Nat) => tp (j + ap)) (fun (j : Nat) => vp (j + ap)) j)
 j))
 (fun (j : Nat) =>
 Prod.fst
 (Prod.snd
 (S.at'
 (S.mkl (S.mdN np) fun (j : Nat) =>
 S.mdR np (fun (j : Nat) => tp (j + ap)) (fun (j : Nat) => vp (j + ap)) j)
 j)))
 (fun (j : Nat) =>
 Prod.snd
 (Prod.snd
 (S.at'
 (S.mkl (S.mdN np) fun (j : Nat) =>
 S.mdR np (fun (j : Nat) => tp (j + ap)) (fun (j : Nat) => vp (j + ap)) j)
 j)))
 (List.length (S.mkl (S.mdN np) fun (j : Nat) => S.mdB (0 : Int) j))
 (fun (j : Nat) => S.at' (S.mkl (S.mdN np) fun (j : Nat) => S.mdB (0 : Int) j) j)
 (List.length (S.mkl nl fun (j : Nat) => S.inp (tl (j + al)))) fun (j : Nat) =>
 S.at' (S.mkl nl fun (j : Nat) => S.inp (tl (j + al))) j))))
 fun (j : Nat) =>
 S.at'
 (Prod.snd
 (Prod.snd
 (S.histS
 (List.length
 (S.mkl (S.mdN np) fun (j : Nat) =>
 S.mdR np (fun (j : Nat) => tp (j + ap)) (fun (j : Nat) => vp (j + ap)) j))
 (fun (j : Nat) =>
 Prod.fst
 (S.at'
 (S.mkl (S.mdN np) fun (j : Nat) =>
 S.mdR np (fun (j : Nat) => tp (j + ap)) (fun (j : Nat) => vp (j + ap)) j)
 j))
 (fun (j : Nat) =>
 Prod.fst
 (Prod.snd
 (S.at'
 (S.mkl (S.mdN np) fun (j : Nat) =>
 S.mdR np (fun (j : Nat) => tp (j + ap)) (fun (j : Nat) => vp (j + ap)) j)
 j)))
 (fun (j : Nat) =>
 Prod.snd
 (Prod.snd
 (S.at'
 (S.mkl (S.mdN np) fun (j : Nat) =>
 S.mdR np (fun (j : Nat) => tp (j + ap)) (fun (j : Nat) => vp (j + ap)) j)
 j)))
 (List.length (S.mkl (S.mdN np) fun (j : Nat) => S.mdB (0 : Int) j))
 (fun (j : Nat) => S.at' (S.mkl (S.mdN np) fun (j : Nat) => S.mdB (0 : Int) j) j)
 (List.length (S.mkl nl fun (j : Nat) => S.inp (tl (j + al)))) fun (j : Nat) =>
 S.at' (S.mkl nl fun (j : Nat) => S.inp (tl (j + al))) j)))
 j) =
 S.mkl
 (List.length
 (Prod.snd
 (Prod.snd
 (S.histS
 (List.length
 (S.mkl (S.mdN np) fun (j : Nat) =>
 S.mdR np (fun (j : Nat) => tp (j + ap)) (fun (j : Nat) => vp (j + ap)) j))
 (fun (j : Nat) =>
 Prod.fst
 (S.at'
 (S.mkl (S.mdN np) fun (j : Nat) =>
 S.mdR np (fun (j : Nat) => tp (j + ap)) (fun (j : Nat) => vp (j + ap)) j)
 j))
 (fun (j : Nat) =>
 Prod.fst
 (Prod.snd
 (S.at'
 (S.mkl (S.mdN np) fun (j : Nat) =>
 S.mdR np (fun (j : Nat) => tp (j + ap)) (fun (j : Nat) => vp (j + ap)) j)
 j)))
 (fun (j : Nat) =>
 Prod.snd
 (Prod.snd
 (S.at'
 (S.mkl (S.mdN np) fun (j : Nat) =>
 S.mdR np (fun (j : Nat) => tp (j + ap)) (fun (j : Nat) => vp (j + ap)) j)
 j)))
 (List.length (S.mkl (S.mdN np) fun (j : Nat) => S.mdB (4095 : Int) j))
 (fun (j : Nat) =>
 S.at' (S.mkl (S.mdN np) fun (j : Nat) => S.mdB (4095 : Int) j) j)
 (List.length (S.mkl nl fun (j : Nat) => S.inp (tl (j + al)))) fun (j : Nat) =>
 S.at' (S.mkl nl fun (j : Nat) => S.inp (tl (j + al))) j))))
 fun (j : Nat) =>
 S.at'
 (Prod.snd
 (Prod.snd
 (S.histS
 (List.length
 (S.mkl (S.mdN np) fun (j : Nat) =>
 S.mdR np (fun (j : Nat) => tp (j + ap)) (fun (j : Nat) => vp (j + ap)) j))
 (fun (j : Nat) =>
 Prod.fst
 (S.at'
 (S.mkl (S.mdN np) fun (j : Nat) =>
 S.mdR np (fun (j : Nat) => tp (j + ap)) (fun (j : Nat) => vp (j + ap)) j)
 j))
 (fun (j : Nat) =>
 Prod.fst
 (Prod.snd
 (S.at'
 (S.mkl (S.mdN np) fun (j : Nat) =>
 S.mdR np (fun (j : Nat) => tp (j + ap)) (fun (j : Nat) => vp (j + ap)) j)
 j)))
 (fun (j : Nat) =>
 Prod.snd
 (Prod.snd
 (S.at'
 (S.mkl (S.mdN np) fun (j : Nat) =>
 S.mdR np (fun (j : Nat) => tp (j + ap)) (fun (j : Nat) => vp (j + ap)) j)
 j)))
 (List.length (S.mkl (S.mdN np) fun (j : Nat) => S.mdB (4095 : Int) j))
 (fun (j : Nat) =>
 S.at' (S.mkl (S.mdN np) fun (j : Nat) => S.mdB (4095 : Int) j) j)
 (List.length (S.mkl nl fun (j : Nat) => S.inp (tl (j + al)))) fun (j : Nat) =>
 S.at' (S.mkl nl fun (j : Nat) => S.inp (tl (j + al))) j)))
 j))
 then (some (.inr (false)))
 else (some (.inr (true))))
 else (none)))))))
 else (none))
 else (none))
 else (none)))
 else (none))
 else (none))
 else (none))
noncomputable def Te9 (test : Bool → Prop → Prop → Prop) (Kst : KS) (Kret : KR) (ap np mp : Nat) (tp : Nat → Int) (vp : Nat → Int) (o : Int) (al nl ml : Nat) (tl : Nat → Int) (ones : Int) : Prop :=
  test (true)
 (test (true)
 (test (decide ((↑nl : Int) > (60 : Int)))
 (test (true)
 (test (true)
 (Kret (PV.tf true) ([[(1, false, Blk.cols ml [Col.int IntKind.u8 tl]),
 (0, false, Blk.cols mp [Col.int IntKind.u8 tp, Col.int IntKind.u8 vp])]]) (5))
 (Kret (PV.tf false) ([[(1, false, Blk.cols ml [Col.int IntKind.u8 tl]),
 (0, false, Blk.cols mp [Col.int IntKind.u8 tp, Col.int IntKind.u8 vp])]]) (5)))
 (False))
 (test (decide (al + nl ≤ ml ∧ nl ≤ 999999 ∧ (S.bytes nl fun (j : Nat) => tl (j + al)) = true))
 (test (decide
 (ap + np ≤ mp ∧
 (S.bytes np fun (j : Nat) => tp (j + ap)) = true ∧
 (S.bytes np fun (j : Nat) => vp (j + ap)) = true))
 (test (decide
 (ap + np ≤ mp ∧
 (S.bytes np fun (j : Nat) => tp (j + ap)) = true ∧
 (S.bytes np fun (j : Nat) => vp (j + ap)) = true))
 (test (decide
 (0 +
 List.length
 (S.mkl (S.mdN np) fun (j : Nat) =>
 S.mdR np (fun (j : Nat) => tp (j + ap)) (fun (j : Nat) => vp (j + ap)) j) ≤
 List.length
 (S.mkl (S.mdN np) fun (j : Nat) =>
 S.mdR np (fun (j : Nat) => tp (j + ap)) (fun (j : Nat) => vp (j + ap)) j) ∧
 List.length
 (S.mkl (S.mdN np) fun (j : Nat) =>
 S.mdR np (fun (j : Nat) => tp (j + ap)) (fun (j : Nat) => vp (j + ap)) j) ≤
 1000000 ∧
 0 + List.length (S.mkl (S.mdN np) fun (j : Nat) => S.mdB o j) ≤
 List.length (S.mkl (S.mdN np) fun (j : Nat) => S.mdB o j) ∧
 List.length (S.mkl (S.mdN np) fun (j : Nat) => S.mdB o j) ≤ 1000000 ∧
 0 + List.length (S.mkl nl fun (j : Nat) => S.inp (tl (j + al))) ≤
 List.length (S.mkl nl fun (j : Nat) => S.inp (tl (j + al))) ∧
 List.length (S.mkl nl fun (j : Nat) => S.inp (tl (j + al))) ≤ 1000000))
 (test (Prod.fst
 (S.erS
 (List.length
 (S.mkl (S.mdN np) fun (j : Nat) =>
 S.mdR np (fun (j : Nat) => tp (j + ap)) (fun (j : Nat) => vp (j + ap)) j))
 (fun (j : Nat) =>
 Prod.fst
 (S.at'
 (S.mkl (S.mdN np) fun (j : Nat) =>
 S.mdR np (fun (j : Nat) => tp (j + ap)) (fun (j : Nat) => vp (j + ap)) j)
 j))
 (fun (j : Nat) =>
 Prod.fst
 (Prod.snd
 (S.at'
 (S.mkl (S.mdN np) fun (j : Nat) =>
 S.mdR np (fun (j : Nat) => tp (j + ap)) (fun (j : Nat) => vp (j + ap)) j)
 j)))
 (fun (j : Nat) =>
 Prod.snd
 (Prod.snd
 (S.at'
 (S.mkl (S.mdN np) fun (j : Nat) =>
 S.mdR np (fun (j : Nat) => tp (j + ap)) (fun (j : Nat) => vp (j + ap)) j)
 j)))
 (List.length (S.mkl (S.mdN np) fun (j : Nat) => S.mdB o j))
 (List.length (S.mkl nl fun (j : Nat) => S.inp (tl (j + al)))) fun (j : Nat) =>
 S.at' (S.mkl nl fun (j : Nat) => S.inp (tl (j + al))) j))
 (test (decide
 (0 +
 List.length
 (S.mkl (S.mdN np) fun (j : Nat) =>
 S.mdR np (fun (j : Nat) => tp (j + ap)) (fun (j : Nat) => vp (j + ap)) j) ≤
 List.length
 (S.mkl (S.mdN np) fun (j : Nat) =>
 S.mdR np (fun (j : Nat) => tp (j + ap)) (fun (j : Nat) => vp (j + ap)) j) ∧
 List.length
 (S.mkl (S.mdN np) fun (j : Nat) =>
 S.mdR np (fun (j : Nat) => tp (j + ap)) (fun (j : Nat) => vp (j + ap)) j) ≤
 1000000 ∧
 0 + List.length (S.mkl (S.mdN np) fun (j : Nat) => S.mdB o j) ≤
 List.length (S.mkl (S.mdN np) fun (j : Nat) => S.mdB o j) ∧
 List.length (S.mkl (S.mdN np) fun (j : Nat) => S.mdB o j) ≤ 1000000 ∧
 0 + List.length (S.mkl nl fun (j : Nat) => S.inp (tl (j + al))) ≤
 List.length (S.mkl nl fun (j : Nat) => S.inp (tl (j + al))) ∧
 List.length (S.mkl nl fun (j : Nat) => S.inp (tl (j + al))) ≤ 1000000))
 (test (decide
 (0 +
 List.length
 (S.mkl (S.mdN np) fun (j : Nat) =>
 S.mdR np (fun (j : Nat) => tp (j + ap)) (fun (j : Nat) => vp (j + ap)) j) ≤
 List.length
 (S.mkl (S.mdN np) fun (j : Nat) =>
 S.mdR np (fun (j : Nat) => tp (j + ap)) (fun (j : Nat) => vp (j + ap)) j) ∧
 List.length
 (S.mkl (S.mdN np) fun (j : Nat) =>
 S.mdR np (fun (j : Nat) => tp (j + ap)) (fun (j : Nat) => vp (j + ap)) j) ≤
 1000000 ∧
 0 + List.length (S.mkl (S.mdN np) fun (j : Nat) => S.mdB ones j) ≤
 List.length (S.mkl (S.mdN np) fun (j : Nat) => S.mdB ones j) ∧
 List.length (S.mkl (S.mdN np) fun (j : Nat) => S.mdB ones j) ≤ 1000000 ∧
 0 + List.length (S.mkl nl fun (j : Nat) => S.inp (tl (j + al))) ≤
 List.length (S.mkl nl fun (j : Nat) => S.inp (tl (j + al))) ∧
 List.length (S.mkl nl fun (j : Nat) => S.inp (tl (j + al))) ≤ 1000000))
 (test (decide
 (ap + np ≤ mp ∧
 (S.bytes np fun (j : Nat) => tp (j + ap)) = true ∧
 (S.bytes np fun (j : Nat) => vp (j + ap)) = true))
 (test (decide
 (0 +
 List.length
 (S.mkl (S.mdN np) fun (j : Nat) =>
 S.mdR np (fun (j : Nat) => tp (j + ap)) (fun (j : Nat) => vp (j + ap)) j) ≤
 List.length
 (S.mkl (S.mdN np) fun (j : Nat) =>
 S.mdR np (fun (j : Nat) => tp (j + ap)) (fun (j : Nat) => vp (j + ap)) j) ∧
 List.length
 (S.mkl (S.mdN np) fun (j : Nat) =>
 S.mdR np (fun (j : Nat) => tp (j + ap)) (fun (j : Nat) => vp (j + ap)) j) ≤
 1000000 ∧
 0 + List.length (S.mkl (S.mdN np) fun (j : Nat) => S.mdB (0 : Int) j) ≤
 List.length (S.mkl (S.mdN np) fun (j : Nat) => S.mdB (0 : Int) j) ∧
 List.length (S.mkl (S.mdN np) fun (j : Nat) => S.mdB (0 : Int) j) ≤ 1000000 ∧
 0 + List.length (S.mkl nl fun (j : Nat) => S.inp (tl (j + al))) ≤
 List.length (S.mkl nl fun (j : Nat) => S.inp (tl (j + al))) ∧
 List.length (S.mkl nl fun (j : Nat) => S.inp (tl (j + al))) ≤ 1000000))
 (test (decide
 (ap + np ≤ mp ∧
 (S.bytes np fun (j : Nat) => tp (j + ap)) = true ∧
 (S.bytes np fun (j : Nat) => vp (j + ap)) = true))
 (test (decide
 (0 +
 List.length
 (S.mkl (S.mdN np) fun (j : Nat) =>
 S.mdR np (fun (j : Nat) => tp (j + ap)) (fun (j : Nat) => vp (j + ap)) j) ≤
 List.length
 (S.mkl (S.mdN np) fun (j : Nat) =>
 S.mdR np (fun (j : Nat) => tp (j + ap)) (fun (j : Nat) => vp (j + ap)) j) ∧
 List.length
 (S.mkl (S.mdN np) fun (j : Nat) =>
 S.mdR np (fun (j : Nat) => tp (j + ap)) (fun (j : Nat) => vp (j + ap)) j) ≤
 1000000 ∧
 0 + List.length (S.mkl (S.mdN np) fun (j : Nat) => S.mdB (4095 : Int) j) ≤
 List.length (S.mkl (S.mdN np) fun (j : Nat) => S.mdB (4095 : Int) j) ∧
 List.length (S.mkl (S.mdN np) fun (j : Nat) => S.mdB (4095 : Int) j) ≤ 1000000 ∧
 0 + List.length (S.mkl nl fun (j : Nat) => S.inp (tl (j + al))) ≤
 List.length (S.mkl nl fun (j : Nat) => S.inp (tl (j + al))) ∧
 List.length (S.mkl nl fun (j : Nat) => S.inp (tl (j + al))) ≤ 1000000))
 (test (Prod.snd
 (S.erS
 (List.length
 (S.mkl (S.mdN np) fun (j : Nat) =>
 S.mdR np (fun (j : Nat) => tp (j + ap)) (fun (j : Nat) => vp (j + ap)) j))
 (fun (j : Nat) =>
 Prod.fst
 (S.at'
 (S.mkl (S.mdN np) fun (j : Nat) =>
 S.mdR np (fun (j : Nat) => tp (j + ap)) (fun (j : Nat) => vp (j + ap)) j)
 j))
 (fun (j : Nat) =>
 Prod.fst
 (Prod.snd
 (S.at'
 (S.mkl (S.mdN np) fun (j : Nat) =>
 S.mdR np (fun (j : Nat) => tp (j + ap)) (fun (j : Nat) => vp (j + ap)) j)
 j)))
 (fun (j : Nat) =>
 Prod.snd
 (Prod.snd
 (S.at'
 (S.mkl (S.mdN np) fun (j : Nat) =>
 S.mdR np (fun (j : Nat) => tp (j + ap)) (fun (j : Nat) => vp (j + ap)) j)
 j)))
 (List.length (S.mkl (S.mdN np) fun (j : Nat) => S.mdB o j))
 (List.length (S.mkl nl fun (j : Nat) => S.inp (tl (j + al)))) fun (j : Nat) =>
 S.at' (S.mkl nl fun (j : Nat) => S.inp (tl (j + al))) j) !=
 (0 : Int))
 (Kret (PV.tf false) ([[(1, false, Blk.cols ml [Col.int IntKind.u8 tl]),
 (0, false, Blk.cols mp [Col.int IntKind.u8 tp, Col.int IntKind.u8 vp])]]) (37))
 (test (Prod.fst
 (S.histS
 (List.length
 (S.mkl (S.mdN np) fun (j : Nat) =>
 S.mdR np (fun (j : Nat) => tp (j + ap)) (fun (j : Nat) => vp (j + ap)) j))
 (fun (j : Nat) =>
 Prod.fst
 (S.at'
 (S.mkl (S.mdN np) fun (j : Nat) =>
 S.mdR np (fun (j : Nat) => tp (j + ap)) (fun (j : Nat) => vp (j + ap)) j)
 j))
 (fun (j : Nat) =>
 Prod.fst
 (Prod.snd
 (S.at'
 (S.mkl (S.mdN np) fun (j : Nat) =>
 S.mdR np (fun (j : Nat) => tp (j + ap)) (fun (j : Nat) => vp (j + ap)) j)
 j)))
 (fun (j : Nat) =>
 Prod.snd
 (Prod.snd
 (S.at'
 (S.mkl (S.mdN np) fun (j : Nat) =>
 S.mdR np (fun (j : Nat) => tp (j + ap)) (fun (j : Nat) => vp (j + ap)) j)
 j)))
 (List.length (S.mkl (S.mdN np) fun (j : Nat) => S.mdB o j))
 (fun (j : Nat) => S.at' (S.mkl (S.mdN np) fun (j : Nat) => S.mdB o j) j)
 (List.length (S.mkl nl fun (j : Nat) => S.inp (tl (j + al)))) fun (j : Nat) =>
 S.at' (S.mkl nl fun (j : Nat) => S.inp (tl (j + al))) j) !=
 (0 : Int))
 (Kret (PV.tf false) ([[(1, false, Blk.cols ml [Col.int IntKind.u8 tl]),
 (0, false, Blk.cols mp [Col.int IntKind.u8 tp, Col.int IntKind.u8 vp])]]) (37))
 (test (Prod.fst
 (S.histS
 (List.length
 (S.mkl (S.mdN np) fun (j : Nat) =>
 S.mdR np (fun (j : Nat) => tp (j + ap)) (fun (j : Nat) => vp (j + ap)) j))
 (fun (j : Nat) =>
 Prod.fst
 (S.at'
 (S.mkl (S.mdN np) fun (j : Nat) =>
 S.mdR np (fun (j : Nat) => tp (j + ap)) (fun (j : Nat) => vp (j + ap)) j)
 j))
 (fun (j : Nat) =>
 Prod.fst
 (Prod.snd
 (S.at'
 (S.mkl (S.mdN np) fun (j : Nat) =>
 S.mdR np (fun (j : Nat) => tp (j + ap)) (fun (j : Nat) => vp (j + ap)) j)
 j)))
 (fun (j : Nat) =>
 Prod.snd
 (Prod.snd
 (S.at'
 (S.mkl (S.mdN np) fun (j : Nat) =>
 S.mdR np (fun (j : Nat) => tp (j + ap)) (fun (j : Nat) => vp (j + ap)) j)
 j)))
 (List.length (S.mkl (S.mdN np) fun (j : Nat) => S.mdB ones j))
 (fun (j : Nat) => S.at' (S.mkl (S.mdN np) fun (j : Nat) => S.mdB ones j) j)
 (List.length (S.mkl nl fun (j : Nat) => S.inp (tl (j + al)))) fun (j : Nat) =>
 S.at' (S.mkl nl fun (j : Nat) => S.inp (tl (j + al))) j) !=
 (0 : Int))
 (Kret (PV.tf false) ([[(1, false, Blk.cols ml [Col.int IntKind.u8 tl]),
 (0, false, Blk.cols mp [Col.int IntKind.u8 tp, Col.int IntKind.u8 vp])]]) (37))
 (test (Prod.fst
 (S.histS
 (List.length
 (S.mkl (S.mdN np) fun (j : Nat) =>
 S.mdR np (fun (j : Nat) => tp (j + ap)) (fun (j : Nat) => vp (j + ap)) j))
 (fun (j : Nat) =>
 Prod.fst
 (S.at'
 (S.mkl (S.mdN np) fun (j : Nat) =>
 S.mdR np (fun (j : Nat) => tp (j + ap)) (fun (j : Nat) => vp (j + ap)) j)
 j))
 (fun (j : Nat) =>
 Prod.fst
 (Prod.snd
 (S.at'
 (S.mkl (S.mdN np) fun (j : Nat) =>
 S.mdR np (fun (j : Nat) => tp (j + ap)) (fun (j : Nat) => vp (j + ap)) j)
 j)))
 (fun (j : Nat) =>
 Prod.snd
 (Prod.snd
 (S.at'
 (S.mkl (S.mdN np) fun (j : Nat) =>
 S.mdR np (fun (j : Nat) => tp (j + ap)) (fun (j : Nat) => vp (j + ap)) j)
 j)))
 (List.length (S.mkl (S.mdN np) fun (j : Nat) => S.mdB (0 : Int) j))
 (fun (j : Nat) => S.at' (S.mkl (S.mdN np) fun (j : Nat) => S.mdB (0 : Int) j) j)
 (List.length (S.mkl nl fun (j : Nat) => S.inp (tl (j + al)))) fun (j : Nat) =>
 S.at' (S.mkl nl fun (j : Nat) => S.inp (tl (j + al))) j) !=
 (0 : Int))
 (Kret (PV.tf false) ([[(1, false, Blk.cols ml [Col.int IntKind.u8 tl]),
 (0, false, Blk.cols mp [Col.int IntKind.u8 tp, Col.int IntKind.u8 vp])]]) (37))
 (test (Prod.fst
 (S.histS
 (List.length
 (S.mkl (S.mdN np) fun (j : Nat) =>
 S.mdR np (fun (j : Nat) => tp (j + ap)) (fun (j : Nat) => vp (j + ap)) j))
 (fun (j : Nat) =>
 Prod.fst
 (S.at'
 (S.mkl (S.mdN np) fun (j : Nat) =>
 S.mdR np (fun (j : Nat) => tp (j + ap)) (fun (j : Nat) => vp (j + ap)) j)
 j))
 (fun (j : Nat) =>
 Prod.fst
 (Prod.snd
 (S.at'
 (S.mkl (S.mdN np) fun (j : Nat) =>
 S.mdR np (fun (j : Nat) => tp (j + ap)) (fun (j : Nat) => vp (j + ap)) j)
 j)))
 (fun (j : Nat) =>
 Prod.snd
 (Prod.snd
 (S.at'
 (S.mkl (S.mdN np) fun (j : Nat) =>
 S.mdR np (fun (j : Nat) => tp (j + ap)) (fun (j : Nat) => vp (j + ap)) j)
 j)))
 (List.length (S.mkl (S.mdN np) fun (j : Nat) => S.mdB (4095 : Int) j))
 (fun (j : Nat) => S.at' (S.mkl (S.mdN np) fun (j : Nat) => S.mdB (4095 : Int) j) j)
 (List.length (S.mkl nl fun (j : Nat) => S.inp (tl (j + al)))) fun (j : Nat) =>
 S.at' (S.mkl nl fun (j : Nat) => S.inp (tl (j + al))) j) !=
 (0 : Int))
 (Kret (PV.tf false) ([[(1, false, Blk.cols ml [Col.int IntKind.u8 tl]),
 (0, false, Blk.cols mp [Col.int IntKind.u8 tp, Col.int IntKind.u8 vp])]]) (37))
 (test (decide
 (0 +
 List.length
 (Prod.fst
 (Prod.snd
 (S.histS
 (List.length
 (S.mkl (S.mdN np) fun (j : Nat) =>
 S.mdR np (fun (j : Nat) => tp (j + ap)) (fun (j : Nat) => vp (j + ap)) j))
 (fun (j : Nat) =>
 Prod.fst
 (S.at'
 (S.mkl (S.mdN np) fun (j : Nat) =>
 S.mdR np (fun (j : Nat) => tp (j + ap)) (fun (j : Nat) => vp (j + ap)) j)
 j))
 (fun (j : Nat) =>
 Prod.fst
 (Prod.snd
 (S.at'
 (S.mkl (S.mdN np) fun (j : Nat) =>
 S.mdR np (fun (j : Nat) => tp (j + ap)) (fun (j : Nat) => vp (j + ap)) j)
 j)))
 (fun (j : Nat) =>
 Prod.snd
 (Prod.snd
 (S.at'
 (S.mkl (S.mdN np) fun (j : Nat) =>
 S.mdR np (fun (j : Nat) => tp (j + ap)) (fun (j : Nat) => vp (j + ap)) j)
 j)))
 (List.length (S.mkl (S.mdN np) fun (j : Nat) => S.mdB (0 : Int) j))
 (fun (j : Nat) => S.at' (S.mkl (S.mdN np) fun (j : Nat) => S.mdB (0 : Int) j) j)
 (List.length (S.mkl nl fun (j : Nat) => S.inp (tl (j + al)))) fun (j : Nat) =>
 S.at' (S.mkl nl fun (j : Nat) => S.inp (tl (j + al))) j))) ≤
 List.length
 (Prod.fst
 (Prod.snd
 (S.histS
 (List.length
 (S.mkl (S.mdN np) fun (j : Nat) =>
 S.mdR np (fun (j : Nat) => tp (j + ap)) (fun (j : Nat) => vp (j + ap)) j))
 (fun (j : Nat) =>
 Prod.fst
 (S.at'
 (S.mkl (S.mdN np) fun (j : Nat) =>
 S.mdR np (fun (j : Nat) => tp (j + ap)) (fun (j : Nat) => vp (j + ap)) j)
 j))
 (fun (j : Nat) =>
 Prod.fst
 (Prod.snd
 (S.at'
 (S.mkl (S.mdN np) fun (j : Nat) =>
 S.mdR np (fun (j : Nat) => tp (j + ap)) (fun (j : Nat) => vp (j + ap)) j)
 j)))
 (fun (j : Nat) =>
 Prod.snd
 (Prod.snd
 (S.at'
 (S.mkl (S.mdN np) fun (j : Nat) =>
 S.mdR np (fun (j : Nat) => tp (j + ap)) (fun (j : Nat) => vp (j + ap)) j)
 j)))
 (List.length (S.mkl (S.mdN np) fun (j : Nat) => S.mdB (0 : Int) j))
 (fun (j : Nat) => S.at' (S.mkl (S.mdN np) fun (j : Nat) => S.mdB (0 : Int) j) j)
 (List.length (S.mkl nl fun (j : Nat) => S.inp (tl (j + al)))) fun (j : Nat) =>
 S.at' (S.mkl nl fun (j : Nat) => S.inp (tl (j + al))) j))) ∧
 List.length
 (Prod.fst
 (Prod.snd
 (S.histS
 (List.length
 (S.mkl (S.mdN np) fun (j : Nat) =>
 S.mdR np (fun (j : Nat) => tp (j + ap)) (fun (j : Nat) => vp (j + ap)) j))
 (fun (j : Nat) =>
 Prod.fst
 (S.at'
 (S.mkl (S.mdN np) fun (j : Nat) =>
 S.mdR np (fun (j : Nat) => tp (j + ap)) (fun (j : Nat) => vp (j + ap)) j)
 j))
 (fun (j : Nat) =>
 Prod.fst
 (Prod.snd
 (S.at'
 (S.mkl (S.mdN np) fun (j : Nat) =>
 S.mdR np (fun (j : Nat) => tp (j + ap)) (fun (j : Nat) => vp (j + ap)) j)
 j)))
 (fun (j : Nat) =>
 Prod.snd
 (Prod.snd
 (S.at'
 (S.mkl (S.mdN np) fun (j : Nat) =>
 S.mdR np (fun (j : Nat) => tp (j + ap)) (fun (j : Nat) => vp (j + ap)) j)
 j)))
 (List.length (S.mkl (S.mdN np) fun (j : Nat) => S.mdB (0 : Int) j))
 (fun (j : Nat) => S.at' (S.mkl (S.mdN np) fun (j : Nat) => S.mdB (0 : Int) j) j)
 (List.length (S.mkl nl fun (j : Nat) => S.inp (tl (j + al)))) fun (j : Nat) =>
 S.at' (S.mkl nl fun (j : Nat) => S.inp (tl (j + al))) j))) ≤
 1000000 ∧
 0 +
 List.length
 (Prod.snd
 (Prod.snd
 (S.histS
 (List.length
 (S.mkl (S.mdN np) fun (j : Nat) =>
 S.mdR np (fun (j : Nat) => tp (j + ap)) (fun (j : Nat) => vp (j + ap)) j))
 (fun (j : Nat) =>
 Prod.fst
 (S.at'
 (S.mkl (S.mdN np) fun (j : Nat) =>
 S.mdR np (fun (j : Nat) => tp (j + ap)) (fun (j : Nat) => vp (j + ap)) j)
 j))
 (fun (j : Nat) =>
 Prod.fst
 (Prod.snd
 (S.at'
 (S.mkl (S.mdN np) fun (j : Nat) =>
 S.mdR np (fun (j : Nat) => tp (j + ap)) (fun (j : Nat) => vp (j + ap)) j)
 j)))
 (fun (j : Nat) =>
 Prod.snd
 (Prod.snd
 (S.at'
 (S.mkl (S.mdN np) fun (j : Nat) =>
 S.mdR np (fun (j : Nat) => tp (j + ap)) (fun (j : Nat) => vp (j + ap)) j)
 j)))
 (List.length (S.mkl (S.mdN np) fun (j : Nat) => S.mdB (0 : Int) j))
 (fun (j : Nat) =>
 S.at' (S.mkl (S.mdN np) fun (j : Nat) => S.mdB (0 : Int) j) j)
 (List.length (S.mkl nl fun (j : Nat) => S.inp (tl (j + al)))) fun (j : Nat) =>
 S.at' (S.mkl nl fun (j : Nat) => S.inp (tl (j + al))) j))) ≤
 List.length
 (Prod.snd
 (Prod.snd
 (S.histS
 (List.length
 (S.mkl (S.mdN np) fun (j : Nat) =>
 S.mdR np (fun (j : Nat) => tp (j + ap)) (fun (j : Nat) => vp (j + ap)) j))
 (fun (j : Nat) =>
 Prod.fst
 (S.at'
 (S.mkl (S.mdN np) fun (j : Nat) =>
 S.mdR np (fun (j : Nat) => tp (j + ap)) (fun (j : Nat) => vp (j + ap)) j)
 j))
 (fun (j : Nat) =>
 Prod.fst
 (Prod.snd
 (S.at'
 (S.mkl (S.mdN np) fun (j : Nat) =>
 S.mdR np (fun (j : Nat) => tp (j + ap)) (fun (j : Nat) => vp (j + ap)) j)
 j)))
 (fun (j : Nat) =>
 Prod.snd
 (Prod.snd
 (S.at'
 (S.mkl (S.mdN np) fun (j : Nat) =>
 S.mdR np (fun (j : Nat) => tp (j + ap)) (fun (j : Nat) => vp (j + ap)) j)
 j)))
 (List.length (S.mkl (S.mdN np) fun (j : Nat) => S.mdB (0 : Int) j))
 (fun (j : Nat) =>
 S.at' (S.mkl (S.mdN np) fun (j : Nat) => S.mdB (0 : Int) j) j)
 (List.length (S.mkl nl fun (j : Nat) => S.inp (tl (j + al)))) fun (j : Nat) =>
 S.at' (S.mkl nl fun (j : Nat) => S.inp (tl (j + al))) j))) ∧
 List.length
 (Prod.snd
 (Prod.snd
 (S.histS
 (List.length
 (S.mkl (S.mdN np) fun (j : Nat) =>
 S.mdR np (fun (j : Nat) => tp (j + ap)) (fun (j : Nat) => vp (j + ap)) j))
 (fun (j : Nat) =>
 Prod.fst
 (S.at'
 (S.mkl (S.mdN np) fun (j : Nat) =>
 S.mdR np (fun (j : Nat) => tp (j + ap)) (fun (j : Nat) => vp (j + ap)) j)
 j))
 (fun (j : Nat) =>
 Prod.fst
 (Prod.snd
 (S.at'
 (S.mkl (S.mdN np) fun (j : Nat) =>
 S.mdR np (fun (j : Nat) => tp (j + ap)) (fun (j : Nat) => vp (j + ap)) j)
 j)))
 (fun (j : Nat) =>
 Prod.snd
 (Prod.snd
 (S.at'
 (S.mkl (S.mdN np) fun (j : Nat) =>
 S.mdR np (fun (j : Nat) => tp (j + ap)) (fun (j : Nat) => vp (j + ap)) j)
 j)))
 (List.length (S.mkl (S.mdN np) fun (j : Nat) => S.mdB (0 : Int) j))
 (fun (j : Nat) =>
 S.at' (S.mkl (S.mdN np) fun (j : Nat) => S.mdB (0 : Int) j) j)
 (List.length (S.mkl nl fun (j : Nat) => S.inp (tl (j + al)))) fun (j : Nat) =>
 S.at' (S.mkl nl fun (j : Nat) => S.inp (tl (j + al))) j))) ≤
 1000000 ∧
 0 +
 List.length
 (Prod.fst
 (Prod.snd
 (S.histS
 (List.length
 (S.mkl (S.mdN np) fun (j : Nat) =>
 S.mdR np (fun (j : Nat) => tp (j + ap)) (fun (j : Nat) => vp (j + ap)) j))
 (fun (j : Nat) =>
 Prod.fst
 (S.at'
 (S.mkl (S.mdN np) fun (j : Nat) =>
 S.mdR np (fun (j : Nat) => tp (j + ap)) (fun (j : Nat) => vp (j + ap)) j)
 j))
 (fun (j : Nat) =>
 Prod.fst
 (Prod.snd
 (S.at'
 (S.mkl (S.mdN np) fun (j : Nat) =>
 S.mdR np (fun (j : Nat) => tp (j + ap)) (fun (j : Nat) => vp (j + ap)) j)
 j)))
 (fun (j : Nat) =>
 Prod.snd
 (Prod.snd
 (S.at'
 (S.mkl (S.mdN np) fun (j : Nat) =>
 S.mdR np (fun (j : Nat) => tp (j + ap)) (fun (j : Nat) => vp (j + ap)) j)
 j)))
 (List.length (S.mkl (S.mdN np) fun (j : Nat) => S.mdB (4095 : Int) j))
 (fun (j : Nat) =>
 S.at' (S.mkl (S.mdN np) fun (j : Nat) => S.mdB (4095 : Int) j) j)
 (List.length (S.mkl nl fun (j : Nat) => S.inp (tl (j + al)))) fun (j : Nat) =>
 S.at' (S.mkl nl fun (j : Nat) => S.inp (tl (j + al))) j))) ≤
 List.length
 (Prod.fst
 (Prod.snd
 (S.histS
 (List.length
 (S.mkl (S.mdN np) fun (j : Nat) =>
 S.mdR np (fun (j : Nat) => tp (j + ap)) (fun (j : Nat) => vp (j + ap)) j))
 (fun (j : Nat) =>
 Prod.fst
 (S.at'
 (S.mkl (S.mdN np) fun (j : Nat) =>
 S.mdR np (fun (j : Nat) => tp (j + ap)) (fun (j : Nat) => vp (j + ap)) j)
 j))
 (fun (j : Nat) =>
 Prod.fst
 (Prod.snd
 (S.at'
 (S.mkl (S.mdN np) fun (j : Nat) =>
 S.mdR np (fun (j : Nat) => tp (j + ap)) (fun (j : Nat) => vp (j + ap)) j)
 j)))
 (fun (j : Nat) =>
 Prod.snd
 (Prod.snd
 (S.at'
 (S.mkl (S.mdN np) fun (j : Nat) =>
 S.mdR np (fun (j : Nat) => tp (j + ap)) (fun (j : Nat) => vp (j + ap)) j)
 j)))
 (List.length (S.mkl (S.mdN np) fun (j : Nat) => S.mdB (4095 : Int) j))
 (fun (j : Nat) =>
 S.at' (S.mkl (S.mdN np) fun (j : Nat) => S.mdB (4095 : Int) j) j)
 (List.length (S.mkl nl fun (j : Nat) => S.inp (tl (j + al)))) fun (j : Nat) =>
 S.at' (S.mkl nl fun (j : Nat) => S.inp (tl (j + al))) j))) ∧
 List.length
 (Prod.fst
 (Prod.snd
 (S.histS
 (List.length
 (S.mkl (S.mdN np) fun (j : Nat) =>
 S.mdR np (fun (j : Nat) => tp (j + ap)) (fun (j : Nat) => vp (j + ap)) j))
 (fun (j : Nat) =>
 Prod.fst
 (S.at'
 (S.mkl (S.mdN np) fun (j : Nat) =>
 S.mdR np (fun (j : Nat) => tp (j + ap)) (fun (j : Nat) => vp (j + ap)) j)
 j))
 (fun (j : Nat) =>
 Prod.fst
 (Prod.snd
 (S.at'
 (S.mkl (S.mdN np) fun (j : Nat) =>
 S.mdR np (fun (j : Nat) => tp (j + ap)) (fun (j : Nat) => vp (j + ap)) j)
 j)))
 (fun (j : Nat) =>
 Prod.snd
 (Prod.snd
 (S.at'
 (S.mkl (S.mdN np) fun (j : Nat) =>
 S.mdR np (fun (j : Nat) => tp (j + ap)) (fun (j : Nat) => vp (j + ap)) j)
 j)))
 (List.length (S.mkl (S.mdN np) fun (j : Nat) => S.mdB (4095 : Int) j))
 (fun (j : Nat) =>
 S.at' (S.mkl (S.mdN np) fun (j : Nat) => S.mdB (4095 : Int) j) j)
 (List.length (S.mkl nl fun (j : Nat) => S.inp (tl (j + al)))) fun (j : Nat) =>
 S.at' (S.mkl nl fun (j : Nat) => S.inp (tl (j + al))) j))) ≤
 1000000 ∧
 0 +
 List.length
 (Prod.snd
 (Prod.snd
 (S.histS
 (List.length
 (S.mkl (S.mdN np) fun (j : Nat) =>
 S.mdR np (fun (j : Nat) => tp (j + ap)) (fun (j : Nat) => vp (j + ap)) j))
 (fun (j : Nat) =>
 Prod.fst
 (S.at'
 (S.mkl (S.mdN np) fun (j : Nat) =>
 S.mdR np (fun (j : Nat) => tp (j + ap)) (fun (j : Nat) => vp (j + ap)) j)
 j))
 (fun (j : Nat) =>
 Prod.fst
 (Prod.snd
 (S.at'
 (S.mkl (S.mdN np) fun (j : Nat) =>
 S.mdR np (fun (j : Nat) => tp (j + ap)) (fun (j : Nat) => vp (j + ap)) j)
 j)))
 (fun (j : Nat) =>
 Prod.snd
 (Prod.snd
 (S.at'
 (S.mkl (S.mdN np) fun (j : Nat) =>
 S.mdR np (fun (j : Nat) => tp (j + ap)) (fun (j : Nat) => vp (j + ap)) j)
 j)))
 (List.length (S.mkl (S.mdN np) fun (j : Nat) => S.mdB (4095 : Int) j))
 (fun (j : Nat) =>
 S.at' (S.mkl (S.mdN np) fun (j : Nat) => S.mdB (4095 : Int) j) j)
 (List.length (S.mkl nl fun (j : Nat) => S.inp (tl (j + al)))) fun (j : Nat) =>
 S.at' (S.mkl nl fun (j : Nat) => S.inp (tl (j + al))) j))) ≤
 List.length
 (Prod.snd
 (Prod.snd
 (S.histS
 (List.length
 (S.mkl (S.mdN np) fun (j : Nat) =>
 S.mdR np (fun (j : Nat) => tp (j + ap)) (fun (j : Nat) => vp (j + ap)) j))
 (fun (j : Nat) =>
 Prod.fst
 (S.at'
 (S.mkl (S.mdN np) fun (j : Nat) =>
 S.mdR np (fun (j : Nat) => tp (j + ap)) (fun (j : Nat) => vp (j + ap)) j)
 j))
 (fun (j : Nat) =>
 Prod.fst
 (Prod.snd
 (S.at'
 (S.mkl (S.mdN np) fun (j : Nat) =>
 S.mdR np (fun (j : Nat) => tp (j + ap)) (fun (j : Nat) => vp (j + ap)) j)
 j)))
 (fun (j : Nat) =>
 Prod.snd
 (Prod.snd
 (S.at'
 (S.mkl (S.mdN np) fun (j : Nat) =>
 S.mdR np (fun (j : Nat) => tp (j + ap)) (fun (j : Nat) => vp (j + ap)) j)
 j)))
 (List.length (S.mkl (S.mdN np) fun (j : Nat) => S.mdB (4095 : Int) j))
 (fun (j : Nat) =>
 S.at' (S.mkl (S.mdN np) fun (j : Nat) => S.mdB (4095 : Int) j) j)
 (List.length (S.mkl nl fun (j : Nat) => S.inp (tl (j + al)))) fun (j : Nat) =>
 S.at' (S.mkl nl fun (j : Nat) => S.inp (tl (j + al))) j))) ∧
 List.length
 (Prod.snd
 (Prod.snd
 (S.histS
 (List.length
 (S.mkl (S.mdN np) fun (j : Nat) =>
 S.mdR np (fun (j : Nat) => tp (j + ap)) (fun (j : Nat) => vp (j + ap)) j))
 (fun (j : Nat) =>
 Prod.fst
 (S.at'
 (S.mkl (S.mdN np) fun (j : Nat) =>
 S.mdR np (fun (j : Nat) => tp (j + ap)) (fun (j : Nat) => vp (j + ap)) j)
 j))
 (fun (j : Nat) =>
 Prod.fst
 (Prod.snd
 (S.at'
 (S.mkl (S.mdN np) fun (j : Nat) =>
 S.mdR np (fun (j : Nat) => tp (j + ap)) (fun (j : Nat) => vp (j + ap)) j)
 j)))
 (fun (j : Nat) =>
 Prod.snd
 (Prod.snd
 (S.at'
 (S.mkl (S.mdN np) fun (j : Nat) =>
 S.mdR np (fun (j : Nat) => tp (j + ap)) (fun (j : Nat) => vp (j + ap)) j)
 j)))
 (List.length (S.mkl (S.mdN np) fun (j : Nat) => S.mdB (4095 : Int) j))
 (fun (j : Nat) =>
 S.at' (S.mkl (S.mdN np) fun (j : Nat) => S.mdB (4095 : Int) j) j)
 (List.length (S.mkl nl fun (j : Nat) => S.inp (tl (j + al)))) fun (j : Nat) =>
 S.at' (S.mkl nl fun (j : Nat) => S.inp (tl (j + al))) j))) ≤
 1000000))
 (test (decide
 ((S.mkl
 (List.length
 (Prod.fst
 (Prod.snd
 (S.histS
 (List.length
 (S.mkl (S.mdN np) fun (j : Nat) =>
 S.mdR np (fun (j : Nat) => tp (j + ap)) (fun (j : Nat) => vp (j + ap)) j))
 (fun (j : Nat) =>
 Prod.fst
 (S.at'
 (S.mkl (S.mdN np) fun (j : Nat) =>
 S.mdR np (fun (j : Nat) => tp (j + ap)) (fun (j : Nat) => vp (j + ap)) j)
 j))
 (fun (j : Nat) =>
 Prod.fst
 (Prod.snd
 (S.at'
 (S.mkl (S.mdN np) fun (j : Nat) =>
 S.mdR np (fun (j : Nat) => tp (j + ap)) (fun (j : Nat) => vp (j + ap)) j)
 j)))
 (fun (j : Nat) =>
 Prod.snd
 (Prod.snd
 (S.at'
 (S.mkl (S.mdN np) fun (j : Nat) =>
 S.mdR np (fun (j : Nat) => tp (j + ap)) (fun (j : Nat) => vp (j + ap)) j)
 j)))
 (List.length (S.mkl (S.mdN np) fun (j : Nat) => S.mdB (0 : Int) j))
 (fun (j : Nat) => S.at' (S.mkl (S.mdN np) fun (j : Nat) => S.mdB (0 : Int) j) j)
 (List.length (S.mkl nl fun (j : Nat) => S.inp (tl (j + al)))) fun (j : Nat) =>
 S.at' (S.mkl nl fun (j : Nat) => S.inp (tl (j + al))) j))))
 fun (j : Nat) =>
 (Prod.fst
 (S.at'
 (Prod.fst
 (Prod.snd
 (S.histS
 (List.length
 (S.mkl (S.mdN np) fun (j : Nat) =>
 S.mdR np (fun (j : Nat) => tp (j + ap)) (fun (j : Nat) => vp (j + ap)) j))
 (fun (j : Nat) =>
 Prod.fst
 (S.at'
 (S.mkl (S.mdN np) fun (j : Nat) =>
 S.mdR np (fun (j : Nat) => tp (j + ap)) (fun (j : Nat) => vp (j + ap)) j)
 j))
 (fun (j : Nat) =>
 Prod.fst
 (Prod.snd
 (S.at'
 (S.mkl (S.mdN np) fun (j : Nat) =>
 S.mdR np (fun (j : Nat) => tp (j + ap)) (fun (j : Nat) => vp (j + ap)) j)
 j)))
 (fun (j : Nat) =>
 Prod.snd
 (Prod.snd
 (S.at'
 (S.mkl (S.mdN np) fun (j : Nat) =>
 S.mdR np (fun (j : Nat) => tp (j + ap)) (fun (j : Nat) => vp (j + ap)) j)
 j)))
 (List.length (S.mkl (S.mdN np) fun (j : Nat) => S.mdB (0 : Int) j))
 (fun (j : Nat) =>
 S.at' (S.mkl (S.mdN np) fun (j : Nat) => S.mdB (0 : Int) j) j)
 (List.length (S.mkl nl fun (j : Nat) => S.inp (tl (j + al)))) fun (j : Nat) =>
 S.at' (S.mkl nl fun (j : Nat) => S.inp (tl (j + al))) j)))
 j),
 Prod.fst
 (Prod.snd
 (S.at'
 (Prod.fst
 (Prod.snd
 (S.histS
 (List.length
 (S.mkl (S.mdN np) fun (j : Nat) =>
 S.mdR np (fun (j : Nat) => tp (j + ap)) (fun (j : Nat) => vp (j + ap)) j))
 (fun (j : Nat) =>
 Prod.fst
 (S.at'
 (S.mkl (S.mdN np) fun (j : Nat) =>
 S.mdR np (fun (j : Nat) => tp (j + ap)) (fun (j : Nat) => vp (j + ap)) j)
 j))
 (fun (j : Nat) =>
 Prod.fst
 (Prod.snd
 (S.at'
 (S.mkl (S.mdN np) fun (j : Nat) =>
 S.mdR np (fun (j : Nat) => tp (j + ap)) (fun (j : Nat) => vp (j + ap)) j)
 j)))
 (fun (j : Nat) =>
 Prod.snd
 (Prod.snd
 (S.at'
 (S.mkl (S.mdN np) fun (j : Nat) =>
 S.mdR np (fun (j : Nat) => tp (j + ap)) (fun (j : Nat) => vp (j + ap)) j)
 j)))
 (List.length (S.mkl (S.mdN np) fun (j : Nat) => S.mdB (0 : Int) j))
 (fun (j : Nat) =>
 S.at' (S.mkl (S.mdN np) fun (j : Nat) => S.mdB (0 : Int) j) j)
 (List.length (S.mkl nl fun (j : Nat) => S.inp (tl (j + al)))) fun (j : Nat) =>
 S.at' (S.mkl nl fun (j : Nat) => S.inp (tl (j + al))) j)))
 j)),
 Prod.snd
 (Prod.snd
 (S.at'
 (Prod.fst
 (Prod.snd
 (S.histS
 (List.length
 (S.mkl (S.mdN np) fun (j : Nat) =>
 S.mdR np (fun (j : Nat) => tp (j + ap)) (fun (j : Nat) => vp (j + ap)) j))
 (fun (j : Nat) =>
 Prod.fst
 (S.at'
 (S.mkl (S.mdN np) fun (j : Nat) =>
 S.mdR np (fun (j : Nat) => tp (j + ap)) (fun (j : Nat) => vp (j + ap)) j)
 j))
 (fun (j : Nat) =>
 Prod.fst
 (Prod.snd
 (S.at'
 (S.mkl (S.mdN np) fun (j : Nat) =>
 S.mdR np (fun (j : Nat) => tp (j + ap)) (fun (j : Nat) => vp (j + ap)) j)
 j)))
 (fun (j : Nat) =>
 Prod.snd
 (Prod.snd
 (S.at'
 (S.mkl (S.mdN np) fun (j : Nat) =>
 S.mdR np (fun (j : Nat) => tp (j + ap)) (fun (j : Nat) => vp (j + ap)) j)
 j)))
 (List.length (S.mkl (S.mdN np) fun (j : Nat) => S.mdB (0 : Int) j))
 (fun (j : Nat) =>
 S.at' (S.mkl (S.mdN np) fun (j : Nat) => S.mdB (0 : Int) j) j)
 (List.length (S.mkl nl fun (j : Nat) => S.inp (tl (j + al)))) fun (j : Nat) =>
 S.at' (S.mkl nl fun (j : Nat) => S.inp (tl (j + al))) j)))
 j)))) =
 S.mkl
 (List.length
 (Prod.fst
 (Prod.snd
 (S.histS
 (List.length
 (S.mkl (S.mdN np) fun (j : Nat) =>
 S.mdR np (fun (j : Nat) => tp (j + ap)) (fun (j : Nat) => vp (j + ap)) j))
 (fun (j : Nat) =>
 Prod.fst
 (S.at'
 (S.mkl (S.mdN np) fun (j : Nat) =>
 S.mdR np (fun (j : Nat) => tp (j + ap)) (fun (j : Nat) => vp (j + ap)) j)
 j))
 (fun (j : Nat) =>
 Prod.fst
 (Prod.snd
 (S.at'
 (S.mkl (S.mdN np) fun (j : Nat) =>
 S.mdR np (fun (j : Nat) => tp (j + ap)) (fun (j : Nat) => vp (j + ap)) j)
 j)))
 (fun (j : Nat) =>
 Prod.snd
 (Prod.snd
 (S.at'
 (S.mkl (S.mdN np) fun (j : Nat) =>
 S.mdR np (fun (j : Nat) => tp (j + ap)) (fun (j : Nat) => vp (j + ap)) j)
 j)))
 (List.length (S.mkl (S.mdN np) fun (j : Nat) => S.mdB (4095 : Int) j))
 (fun (j : Nat) =>
 S.at' (S.mkl (S.mdN np) fun (j : Nat) => S.mdB (4095 : Int) j) j)
 (List.length (S.mkl nl fun (j : Nat) => S.inp (tl (j + al)))) fun (j : Nat) =>
 S.at' (S.mkl nl fun (j : Nat) => S.inp (tl (j + al))) j))))
 fun (j : Nat) =>
 (Prod.fst
 (S.at'
 (Prod.fst
 (Prod.snd
 (S.histS
 (List.length
 (S.mkl (S.mdN np) fun (j : Nat) =>
 S.mdR np (fun (j : Nat) => tp (j + ap)) (fun (j : Nat) => vp (j + ap)) j))
 (fun (j : Nat) =>
 Prod.fst
 (S.at'
 (S.mkl (S.mdN np) fun (j : Nat) =>
 S.mdR np (fun (j : Nat) => tp (j + ap)) (fun (j : Nat) => vp (j + ap)) j)
 j))
 (fun (j : Nat) =>
 Prod.fst
 (Prod.snd
 (S.at'
 (S.mkl (S.mdN np) fun (j : Nat) =>
 S.mdR np (fun (j : Nat) => tp (j + ap)) (fun (j : Nat) => vp (j + ap)) j)
 j)))
 (fun (j : Nat) =>
 Prod.snd
 (Prod.snd
 (S.at'
 (S.mkl (S.mdN np) fun (j : Nat) =>
 S.mdR np (fun (j : Nat) => tp (j + ap)) (fun (j : Nat) => vp (j + ap)) j)
 j)))
 (List.length (S.mkl (S.mdN np) fun (j : Nat) => S.mdB (4095 : Int) j))
 (fun (j : Nat) =>
 S.at' (S.mkl (S.mdN np) fun (j : Nat) => S.mdB (4095 : Int) j) j)
 (List.length (S.mkl nl fun (j : Nat) => S.inp (tl (j + al)))) fun (j : Nat) =>
 S.at' (S.mkl nl fun (j : Nat) => S.inp (tl (j + al))) j)))
 j),
 Prod.fst
 (Prod.snd
 (S.at'
 (Prod.fst
 (Prod.snd
 (S.histS
 (List.length
 (S.mkl (S.mdN np) fun (j : Nat) =>
 S.mdR np (fun (j : Nat) => tp (j + ap)) (fun (j : Nat) => vp (j + ap)) j))
 (fun (j : Nat) =>
 Prod.fst
 (S.at'
 (S.mkl (S.mdN np) fun (j : Nat) =>
 S.mdR np (fun (j : Nat) => tp (j + ap)) (fun (j : Nat) => vp (j + ap)) j)
 j))
 (fun (j : Nat) =>
 Prod.fst
 (Prod.snd
 (S.at'
 (S.mkl (S.mdN np) fun (j : Nat) =>
 S.mdR np (fun (j : Nat) => tp (j + ap)) (fun (j : Nat) => vp (j + ap)) j)
 j)))
 (fun (j : Nat) =>
 Prod.snd
 (Prod.snd
 (S.at'
 (S.mkl (S.mdN np) fun (j : Nat) =>
 S.mdR np (fun (j : Nat) => tp (j + ap)) (fun (j : Nat) => vp (j + ap)) j)
 j)))
 (List.length (S.mkl (S.mdN np) fun (j : Nat) => S.mdB (4095 : Int) j))
 (fun (j : Nat) =>
 S.at' (S.mkl (S.mdN np) fun (j : Nat) => S.mdB (4095 : Int) j) j)
 (List.length (S.mkl nl fun (j : Nat) => S.inp (tl (j + al)))) fun (j : Nat) =>
 S.at' (S.mkl nl fun (j : Nat) => S.inp (tl (j + al))) j)))
 j)),
 Prod.snd
 (Prod.snd
 (S.at'
 (Prod.fst
 (Prod.snd
 (S.histS
 (List.length
 (S.mkl (S.mdN np) fun (j : Nat) =>
 S.mdR np (fun (j : Nat) => tp (j + ap)) (fun (j : Nat) => vp (j + ap)) j))
 (fun (j : Nat) =>
 Prod.fst
 (S.at'
 (S.mkl (S.mdN np) fun (j : Nat) =>
 S.mdR np (fun (j : Nat) => tp (j + ap)) (fun (j : Nat) => vp (j + ap)) j)
 j))
 (fun (j : Nat) =>
 Prod.fst
 (Prod.snd
 (S.at'
 (S.mkl (S.mdN np) fun (j : Nat) =>
 S.mdR np (fun (j : Nat) => tp (j + ap)) (fun (j : Nat) => vp (j + ap)) j)
 j)))
 (fun (j : Nat) =>
 Prod.snd
 (Prod.snd
 (S.at'
 (S.mkl (S.mdN np) fun (j : Nat) =>
 S.mdR np (fun (j : Nat) => tp (j + ap)) (fun (j : Nat) => vp (j + ap)) j)
 j)))
 (List.length (S.mkl (S.mdN np) fun (j : Nat) => S.mdB (4095 : Int) j))
 (fun (j : Nat) =>
 S.at' (S.mkl (S.mdN np) fun (j : Nat) => S.mdB (4095 : Int) j) j)
 (List.length (S.mkl nl fun (j : Nat) => S.inp (tl (j + al)))) fun (j : Nat) =>
 S.at' (S.mkl nl fun (j : Nat) => S.inp (tl (j + al))) j)))
 j)))) &&
 decide
 ((S.mkl
 (List.length
 (Prod.snd
 (Prod.snd
 (S.histS
 (List.length
 (S.mkl (S.mdN np) fun (j : Nat) =>
 S.mdR np (fun (j : Nat) => tp (j + ap)) (fun (j : Nat) => vp (j + ap)) j))
 (fun (j : Nat) =>
 Prod.fst
 (S.at'
 (S.mkl (S.mdN np) fun (j : Nat) =>
 S.mdR np (fun (j : Nat) => tp (j + ap)) (fun (j : Nat) => vp (j + ap)) j)
 j))
 (fun (j : Nat) =>
 Prod.fst
 (Prod.snd
 (S.at'
 (S.mkl (S.mdN np) fun (j : Nat) =>
 S.mdR np (fun (j : Nat) => tp (j + ap)) (fun (j : Nat) => vp (j + ap)) j)
 j)))
 (fun (j : Nat) =>
 Prod.snd
 (Prod.snd
 (S.at'
 (S.mkl (S.mdN np) fun (j : Nat) =>
 S.mdR np (fun (j : Nat) => tp (j + ap)) (fun (j : Nat) => vp (j + ap)) j)
 j)))
 (List.length (S.mkl (S.mdN np) fun (j : Nat) => S.mdB (0 : Int) j))
 (fun (j : Nat) => S.at' (S.mkl (S.mdN np) fun (j : Nat) => S.mdB (0 : Int) j) j)
 (List.length (S.mkl nl fun (j : Nat) => S.inp (tl (j + al)))) fun (j : Nat) =>
 S.at' (S.mkl nl fun (j : Nat) => S.inp (tl (j + al))) j))))
 fun (j : Nat) =>
 S.at'
 (Prod.snd
 (Prod.snd
 (S.histS
 (List.length
 (S.mkl (S.mdN np) fun (j : Nat) =>
 S.mdR np (fun (j : Nat) => tp (j + ap)) (fun (j : Nat) => vp (j + ap)) j))
 (fun (j : Nat) =>
 Prod.fst
 (S.at'
 (S.mkl (S.mdN np) fun (j : Nat) =>
 S.mdR np (fun (j : Nat) => tp (j + ap)) (fun (j : Nat) => vp (j + ap)) j)
 j))
 (fun (j : Nat) =>
 Prod.fst
 (Prod.snd
 (S.at'
 (S.mkl (S.mdN np) fun (j : Nat) =>
 S.mdR np (fun (j : Nat) => tp (j + ap)) (fun (j : Nat) => vp (j + ap)) j)
 j)))
 (fun (j : Nat) =>
 Prod.snd
 (Prod.snd
 (S.at'
 (S.mkl (S.mdN np) fun (j : Nat) =>
 S.mdR np (fun (j : Nat) => tp (j + ap)) (fun (j : Nat) => vp (j + ap)) j)
 j)))
 (List.length (S.mkl (S.mdN np) fun (j : Nat) => S.mdB (0 : Int) j))
 (fun (j : Nat) => S.at' (S.mkl (S.mdN np) fun (j : Nat) => S.mdB (0 : Int) j) j)
 (List.length (S.mkl nl fun (j : Nat) => S.inp (tl (j + al)))) fun (j : Nat) =>
 S.at' (S.mkl nl fun (j : Nat) => S.inp (tl (j + al))) j)))
 j) =
 S.mkl
 (List.length
 (Prod.snd
 (Prod.snd
 (S.histS
 (List.length
 (S.mkl (S.mdN np) fun (j : Nat) =>
 S.mdR np (fun (j : Nat) => tp (j + ap)) (fun (j : Nat) => vp (j + ap)) j))
 (fun (j : Nat) =>
 Prod.fst
 (S.at'
 (S.mkl (S.mdN np) fun (j : Nat) =>
 S.mdR np (fun (j : Nat) => tp (j + ap)) (fun (j : Nat) => vp (j + ap)) j)
 j))
 (fun (j : Nat) =>
 Prod.fst
 (Prod.snd
 (S.at'
 (S.mkl (S.mdN np) fun (j : Nat) =>
 S.mdR np (fun (j : Nat) => tp (j + ap)) (fun (j : Nat) => vp (j + ap)) j)
 j)))
 (fun (j : Nat) =>
 Prod.snd
 (Prod.snd
 (S.at'
 (S.mkl (S.mdN np) fun (j : Nat) =>
 S.mdR np (fun (j : Nat) => tp (j + ap)) (fun (j : Nat) => vp (j + ap)) j)
 j)))
 (List.length (S.mkl (S.mdN np) fun (j : Nat) => S.mdB (4095 : Int) j))
 (fun (j : Nat) =>
 S.at' (S.mkl (S.mdN np) fun (j : Nat) => S.mdB (4095 : Int) j) j)
 (List.length (S.mkl nl fun (j : Nat) => S.inp (tl (j + al)))) fun (j : Nat) =>
 S.at' (S.mkl nl fun (j : Nat) => S.inp (tl (j + al))) j))))
 fun (j : Nat) =>
 S.at'
 (Prod.snd
 (Prod.snd
 (S.histS
 (List.length
 (S.mkl (S.mdN np) fun (j : Nat) =>
 S.mdR np (fun (j : Nat) => tp (j + ap)) (fun (j : Nat) => vp (j + ap)) j))
 (fun (j : Nat) =>
 Prod.fst
 (S.at'
 (S.mkl (S.mdN np) fun (j : Nat) =>
 S.mdR np (fun (j : Nat) => tp (j + ap)) (fun (j : Nat) => vp (j + ap)) j)
 j))
 (fun (j : Nat) =>
 Prod.fst
 (Prod.snd
 (S.at'
 (S.mkl (S.mdN np) fun (j : Nat) =>
 S.mdR np (fun (j : Nat) => tp (j + ap)) (fun (j : Nat) => vp (j + ap)) j)
 j)))
 (fun (j : Nat) =>
 Prod.snd
 (Prod.snd
 (S.at'
 (S.mkl (S.mdN np) fun (j : Nat) =>
 S.mdR np (fun (j : Nat) => tp (j + ap)) (fun (j : Nat) => vp (j + ap)) j)
 j)))
 (List.length (S.mkl (S.mdN np) fun (j : Nat) => S.mdB (4095 : Int) j))
 (fun (j : Nat) =>
 S.at' (S.mkl (S.mdN np) fun (j : Nat) => S.mdB (4095 : Int) j) j)
 (List.length (S.mkl nl fun (j : Nat) => S.inp (tl (j + al)))) fun (j : Nat) =>
 S.at' (S.mkl nl fun (j : Nat) => S.inp (tl (j + al))) j)))
 j))
 (test (decide
 (0 +
 List.length
 (Prod.fst
 (Prod.snd
 (S.histS
 (List.length
 (S.mkl (S.mdN np) fun (j : Nat) =>
 S.mdR np (fun (j : Nat) => tp (j + ap)) (fun (j : Nat) => vp (j + ap)) j))
 (fun (j : Nat) =>
 Prod.fst
 (S.at'
 (S.mkl (S.mdN np) fun (j : Nat) =>
 S.mdR np (fun (j : Nat) => tp (j + ap)) (fun (j : Nat) => vp (j + ap)) j)
 j))
 (fun (j : Nat) =>
 Prod.fst
 (Prod.snd
 (S.at'
 (S.mkl (S.mdN np) fun (j : Nat) =>
 S.mdR np (fun (j : Nat) => tp (j + ap)) (fun (j : Nat) => vp (j + ap)) j)
 j)))
 (fun (j : Nat) =>
 Prod.snd
 (Prod.snd
 (S.at'
 (S.mkl (S.mdN np) fun (j : Nat) =>
 S.mdR np (fun (j : Nat) => tp (j + ap)) (fun (j : Nat) => vp (j + ap)) j)
 j)))
 (List.length (S.mkl (S.mdN np) fun (j : Nat) => S.mdB o j))
 (fun (j : Nat) => S.at' (S.mkl (S.mdN np) fun (j : Nat) => S.mdB o j) j)
 (List.length (S.mkl nl fun (j : Nat) => S.inp (tl (j + al)))) fun (j : Nat) =>
 S.at' (S.mkl nl fun (j : Nat) => S.inp (tl (j + al))) j))) ≤
 List.length
 (Prod.fst
 (Prod.snd
 (S.histS
 (List.length
 (S.mkl (S.mdN np) fun (j : Nat) =>
 S.mdR np (fun (j : Nat) => tp (j + ap)) (fun (j : Nat) => vp (j + ap)) j))
 (fun (j : Nat) =>
 Prod.fst
 (S.at'
 (S.mkl (S.mdN np) fun (j : Nat) =>
 S.mdR np (fun (j : Nat) => tp (j + ap)) (fun (j : Nat) => vp (j + ap)) j)
 j))
 (fun (j : Nat) =>
 Prod.fst
 (Prod.snd
 (S.at'
 (S.mkl (S.mdN np) fun (j : Nat) =>
 S.mdR np (fun (j : Nat) => tp (j + ap)) (fun (j : Nat) => vp (j + ap)) j)
 j)))
 (fun (j : Nat) =>
 Prod.snd
 (Prod.snd
 (S.at'
 (S.mkl (S.mdN np) fun (j : Nat) =>
 S.mdR np (fun (j : Nat) => tp (j + ap)) (fun (j : Nat) => vp (j + ap)) j)
 j)))
 (List.length (S.mkl (S.mdN np) fun (j : Nat) => S.mdB o j))
 (fun (j : Nat) => S.at' (S.mkl (S.mdN np) fun (j : Nat) => S.mdB o j) j)
 (List.length (S.mkl nl fun (j : Nat) => S.inp (tl (j + al)))) fun (j : Nat) =>
 S.at' (S.mkl nl fun (j : Nat) => S.inp (tl (j + al))) j))) ∧
 List.length
 (Prod.fst
 (Prod.snd
 (S.histS
 (List.length
 (S.mkl (S.mdN np) fun (j : Nat) =>
 S.mdR np (fun (j : Nat) => tp (j + ap)) (fun (j : Nat) => vp (j + ap)) j))
 (fun (j : Nat) =>
 Prod.fst
 (S.at'
 (S.mkl (S.mdN np) fun (j : Nat) =>
 S.mdR np (fun (j : Nat) => tp (j + ap)) (fun (j : Nat) => vp (j + ap)) j)
 j))
 (fun (j : Nat) =>
 Prod.fst
 (Prod.snd
 (S.at'
 (S.mkl (S.mdN np) fun (j : Nat) =>
 S.mdR np (fun (j : Nat) => tp (j + ap)) (fun (j : Nat) => vp (j + ap)) j)
 j)))
 (fun (j : Nat) =>
 Prod.snd
 (Prod.snd
 (S.at'
 (S.mkl (S.mdN np) fun (j : Nat) =>
 S.mdR np (fun (j : Nat) => tp (j + ap)) (fun (j : Nat) => vp (j + ap)) j)
 j)))
 (List.length (S.mkl (S.mdN np) fun (j : Nat) => S.mdB o j))
 (fun (j : Nat) => S.at' (S.mkl (S.mdN np) fun (j : Nat) => S.mdB o j) j)
 (List.length (S.mkl nl fun (j : Nat) => S.inp (tl (j + al)))) fun (j : Nat) =>
 S.at' (S.mkl nl fun (j : Nat) => S.inp (tl (j + al))) j))) ≤
 1000000 ∧
 0 +
 List.length
 (Prod.snd
 (Prod.snd
 (S.histS
 (List.length
 (S.mkl (S.mdN np) fun (j : Nat) =>
 S.mdR np (fun (j : Nat) => tp (j + ap)) (fun (j : Nat) => vp (j + ap)) j))
 (fun (j : Nat) =>
 Prod.fst
 (S.at'
 (S.mkl (S.mdN np) fun (j : Nat) =>
 S.mdR np (fun (j : Nat) => tp (j + ap)) (fun (j : Nat) => vp (j + ap)) j)
 j))
 (fun (j : Nat) =>
 Prod.fst
 (Prod.snd
 (S.at'
 (S.mkl (S.mdN np) fun (j : Nat) =>
 S.mdR np (fun (j : Nat) => tp (j + ap)) (fun (j : Nat) => vp (j + ap)) j)
 j)))
 (fun (j : Nat) =>
 Prod.snd
 (Prod.snd
 (S.at'
 (S.mkl (S.mdN np) fun (j : Nat) =>
 S.mdR np (fun (j : Nat) => tp (j + ap)) (fun (j : Nat) => vp (j + ap)) j)
 j)))
 (List.length (S.mkl (S.mdN np) fun (j : Nat) => S.mdB o j))
 (fun (j : Nat) => S.at' (S.mkl (S.mdN np) fun (j : Nat) => S.mdB o j) j)
 (List.length (S.mkl nl fun (j : Nat) => S.inp (tl (j + al)))) fun (j : Nat) =>
 S.at' (S.mkl nl fun (j : Nat) => S.inp (tl (j + al))) j))) ≤
 List.length
 (Prod.snd
 (Prod.snd
 (S.histS
 (List.length
 (S.mkl (S.mdN np) fun (j : Nat) =>
 S.mdR np (fun (j : Nat) => tp (j + ap)) (fun (j : Nat) => vp (j + ap)) j))
 (fun (j : Nat) =>
 Prod.fst
 (S.at'
 (S.mkl (S.mdN np) fun (j : Nat) =>
 S.mdR np (fun (j : Nat) => tp (j + ap)) (fun (j : Nat) => vp (j + ap)) j)
 j))
 (fun (j : Nat) =>
 Prod.fst
 (Prod.snd
 (S.at'
 (S.mkl (S.mdN np) fun (j : Nat) =>
 S.mdR np (fun (j : Nat) => tp (j + ap)) (fun (j : Nat) => vp (j + ap)) j)
 j)))
 (fun (j : Nat) =>
 Prod.snd
 (Prod.snd
 (S.at'
 (S.mkl (S.mdN np) fun (j : Nat) =>
 S.mdR np (fun (j : Nat) => tp (j + ap)) (fun (j : Nat) => vp (j + ap)) j)
 j)))
 (List.length (S.mkl (S.mdN np) fun (j : Nat) => S.mdB o j))
 (fun (j : Nat) => S.at' (S.mkl (S.mdN np) fun (j : Nat) => S.mdB o j) j)
 (List.length (S.mkl nl fun (j : Nat) => S.inp (tl (j + al)))) fun (j : Nat) =>
 S.at' (S.mkl nl fun (j : Nat) => S.inp (tl (j + al))) j))) ∧
 List.length
 (Prod.snd
 (Prod.snd
 (S.histS
 (List.length
 (S.mkl (S.mdN np) fun (j : Nat) =>
 S.mdR np (fun (j : Nat) => tp (j + ap)) (fun (j : Nat) => vp (j + ap)) j))
 (fun (j : Nat) =>
 Prod.fst
 (S.at'
 (S.mkl (S.mdN np) fun (j : Nat) =>
 S.mdR np (fun (j : Nat) => tp (j + ap)) (fun (j : Nat) => vp (j + ap)) j)
 j))
 (fun (j : Nat) =>
 Prod.fst
 (Prod.snd
 (S.at'
 (S.mkl (S.mdN np) fun (j : Nat) =>
 S.mdR np (fun (j : Nat) => tp (j + ap)) (fun (j : Nat) => vp (j + ap)) j)
 j)))
 (fun (j : Nat) =>
 Prod.snd
 (Prod.snd
 (S.at'
 (S.mkl (S.mdN np) fun (j : Nat) =>
 S.mdR np (fun (j : Nat) => tp (j + ap)) (fun (j : Nat) => vp (j + ap)) j)
 j)))
 (List.length (S.mkl (S.mdN np) fun (j : Nat) => S.mdB o j))
 (fun (j : Nat) => S.at' (S.mkl (S.mdN np) fun (j : Nat) => S.mdB o j) j)
 (List.length (S.mkl nl fun (j : Nat) => S.inp (tl (j + al)))) fun (j : Nat) =>
 S.at' (S.mkl nl fun (j : Nat) => S.inp (tl (j + al))) j))) ≤
 1000000 ∧
 0 +
 List.length
 (Prod.fst
 (Prod.snd
 (S.histS
 (List.length
 (S.mkl (S.mdN np) fun (j : Nat) =>
 S.mdR np (fun (j : Nat) => tp (j + ap)) (fun (j : Nat) => vp (j + ap)) j))
 (fun (j : Nat) =>
 Prod.fst
 (S.at'
 (S.mkl (S.mdN np) fun (j : Nat) =>
 S.mdR np (fun (j : Nat) => tp (j + ap)) (fun (j : Nat) => vp (j + ap)) j)
 j))
 (fun (j : Nat) =>
 Prod.fst
 (Prod.snd
 (S.at'
 (S.mkl (S.mdN np) fun (j : Nat) =>
 S.mdR np (fun (j : Nat) => tp (j + ap)) (fun (j : Nat) => vp (j + ap)) j)
 j)))
 (fun (j : Nat) =>
 Prod.snd
 (Prod.snd
 (S.at'
 (S.mkl (S.mdN np) fun (j : Nat) =>
 S.mdR np (fun (j : Nat) => tp (j + ap)) (fun (j : Nat) => vp (j + ap)) j)
 j)))
 (List.length (S.mkl (S.mdN np) fun (j : Nat) => S.mdB ones j))
 (fun (j : Nat) =>
 S.at' (S.mkl (S.mdN np) fun (j : Nat) => S.mdB ones j) j)
 (List.length (S.mkl nl fun (j : Nat) => S.inp (tl (j + al)))) fun (j : Nat) =>
 S.at' (S.mkl nl fun (j : Nat) => S.inp (tl (j + al))) j))) ≤
 List.length
 (Prod.fst
 (Prod.snd
 (S.histS
 (List.length
 (S.mkl (S.mdN np) fun (j : Nat) =>
 S.mdR np (fun (j : Nat) => tp (j + ap)) (fun (j : Nat) => vp (j + ap)) j))
 (fun (j : Nat) =>
 Prod.fst
 (S.at'
 (S.mkl (S.mdN np) fun (j : Nat) =>
 S.mdR np (fun (j : Nat) => tp (j + ap)) (fun (j : Nat) => vp (j + ap)) j)
 j))
 (fun (j : Nat) =>
 Prod.fst
 (Prod.snd
 (S.at'
 (S.mkl (S.mdN np) fun (j : Nat) =>
 S.mdR np (fun (j : Nat) => tp (j + ap)) (fun (j : Nat) => vp (j + ap)) j)
 j)))
 (fun (j : Nat) =>
 Prod.snd
 (Prod.snd
 (S.at'
 (S.mkl (S.mdN np) fun (j : Nat) =>
 S.mdR np (fun (j : Nat) => tp (j + ap)) (fun (j : Nat) => vp (j + ap)) j)
 j)))
 (List.length (S.mkl (S.mdN np) fun (j : Nat) => S.mdB ones j))
 (fun (j : Nat) =>
 S.at' (S.mkl (S.mdN np) fun (j : Nat) => S.mdB ones j) j)
 (List.length (S.mkl nl fun (j : Nat) => S.inp (tl (j + al)))) fun (j : Nat) =>
 S.at' (S.mkl nl fun (j : Nat) => S.inp (tl (j + al))) j))) ∧
 List.length
 (Prod.fst
 (Prod.snd
 (S.histS
 (List.length
 (S.mkl (S.mdN np) fun (j : Nat) =>
 S.mdR np (fun (j : Nat) => tp (j + ap)) (fun (j : Nat) => vp (j + ap)) j))
 (fun (j : Nat) =>
 Prod.fst
 (S.at'
 (S.mkl (S.mdN np) fun (j : Nat) =>
 S.mdR np (fun (j : Nat) => tp (j + ap)) (fun (j : Nat) => vp (j + ap)) j)
 j))
 (fun (j : Nat) =>
 Prod.fst
 (Prod.snd
 (S.at'
 (S.mkl (S.mdN np) fun (j : Nat) =>
 S.mdR np (fun (j : Nat) => tp (j + ap)) (fun (j : Nat) => vp (j + ap)) j)
 j)))
 (fun (j : Nat) =>
 Prod.snd
 (Prod.snd
 (S.at'
 (S.mkl (S.mdN np) fun (j : Nat) =>
 S.mdR np (fun (j : Nat) => tp (j + ap)) (fun (j : Nat) => vp (j + ap)) j)
 j)))
 (List.length (S.mkl (S.mdN np) fun (j : Nat) => S.mdB ones j))
 (fun (j : Nat) =>
 S.at' (S.mkl (S.mdN np) fun (j : Nat) => S.mdB ones j) j)
 (List.length (S.mkl nl fun (j : Nat) => S.inp (tl (j + al)))) fun (j : Nat) =>
 S.at' (S.mkl nl fun (j : Nat) => S.inp (tl (j + al))) j))) ≤
 1000000 ∧
 0 +
 List.length
 (Prod.snd
 (Prod.snd
 (S.histS
 (List.length
 (S.mkl (S.mdN np) fun (j : Nat) =>
 S.mdR np (fun (j : Nat) => tp (j + ap)) (fun (j : Nat) => vp (j + ap)) j))
 (fun (j : Nat) =>
 Prod.fst
 (S.at'
 (S.mkl (S.mdN np) fun (j : Nat) =>
 S.mdR np (fun (j : Nat) => tp (j + ap)) (fun (j : Nat) => vp (j + ap)) j)
 j))
 (fun (j : Nat) =>
 Prod.fst
 (Prod.snd
 (S.at'
 (S.mkl (S.mdN np) fun (j : Nat) =>
 S.mdR np (fun (j : Nat) => tp (j + ap)) (fun (j : Nat) => vp (j + ap)) j)
 j)))
 (fun (j : Nat) =>
 Prod.snd
 (Prod.snd
 (S.at'
 (S.mkl (S.mdN np) fun (j : Nat) =>
 S.mdR np (fun (j : Nat) => tp (j + ap)) (fun (j : Nat) => vp (j + ap)) j)
 j)))
 (List.length (S.mkl (S.mdN np) fun (j : Nat) => S.mdB ones j))
 (fun (j : Nat) =>
 S.at' (S.mkl (S.mdN np) fun (j : Nat) => S.mdB ones j) j)
 (List.length (S.mkl nl fun (j : Nat) => S.inp (tl (j + al)))) fun (j : Nat) =>
 S.at' (S.mkl nl fun (j : Nat) => S.inp (tl (j + al))) j))) ≤
 List.length
 (Prod.snd
 (Prod.snd
 (S.histS
 (List.length
 (S.mkl (S.mdN np) fun (j : Nat) =>
 S.mdR np (fun (j : Nat) => tp (j + ap)) (fun (j : Nat) => vp (j + ap)) j))
 (fun (j : Nat) =>
 Prod.fst
 (S.at'
 (S.mkl (S.mdN np) fun (j : Nat) =>
 S.mdR np (fun (j : Nat) => tp (j + ap)) (fun (j : Nat) => vp (j + ap)) j)
 j))
 (fun (j : Nat) =>
 Prod.fst
 (Prod.snd
 (S.at'
 (S.mkl (S.mdN np) fun (j : Nat) =>
 S.mdR np (fun (j : Nat) => tp (j + ap)) (fun (j : Nat) => vp (j + ap)) j)
 j)))
 (fun (j : Nat) =>
 Prod.snd
 (Prod.snd
 (S.at'
 (S.mkl (S.mdN np) fun (j : Nat) =>
 S.mdR np (fun (j : Nat) => tp (j + ap)) (fun (j : Nat) => vp (j + ap)) j)
 j)))
 (List.length (S.mkl (S.mdN np) fun (j : Nat) => S.mdB ones j))
 (fun (j : Nat) =>
 S.at' (S.mkl (S.mdN np) fun (j : Nat) => S.mdB ones j) j)
 (List.length (S.mkl nl fun (j : Nat) => S.inp (tl (j + al)))) fun (j : Nat) =>
 S.at' (S.mkl nl fun (j : Nat) => S.inp (tl (j + al))) j))) ∧
 List.length
 (Prod.snd
 (Prod.snd
 (S.histS
 (List.length
 (S.mkl (S.mdN np) fun (j : Nat) =>
 S.mdR np (fun (j : Nat) => tp (j + ap)) (fun (j : Nat) => vp (j + ap)) j))
 (fun (j : Nat) =>
 Prod.fst
 (S.at'
 (S.mkl (S.mdN np) fun (j : Nat) =>
 S.mdR np (fun (j : Nat) => tp (j + ap)) (fun (j : Nat) => vp (j + ap)) j)
 j))
 (fun (j : Nat) =>
 Prod.fst
 (Prod.snd
 (S.at'
 (S.mkl (S.mdN np) fun (j : Nat) =>
 S.mdR np (fun (j : Nat) => tp (j + ap)) (fun (j : Nat) => vp (j + ap)) j)
 j)))
 (fun (j : Nat) =>
 Prod.snd
 (Prod.snd
 (S.at'
 (S.mkl (S.mdN np) fun (j : Nat) =>
 S.mdR np (fun (j : Nat) => tp (j + ap)) (fun (j : Nat) => vp (j + ap)) j)
 j)))
 (List.length (S.mkl (S.mdN np) fun (j : Nat) => S.mdB ones j))
 (fun (j : Nat) =>
 S.at' (S.mkl (S.mdN np) fun (j : Nat) => S.mdB ones j) j)
 (List.length (S.mkl nl fun (j : Nat) => S.inp (tl (j + al)))) fun (j : Nat) =>
 S.at' (S.mkl nl fun (j : Nat) => S.inp (tl (j + al))) j))) ≤
 1000000))
 (test (decide
 ((S.mkl
 (List.length
 (Prod.fst
 (Prod.snd
 (S.histS
 (List.length
 (S.mkl (S.mdN np) fun (j : Nat) =>
 S.mdR np (fun (j : Nat) => tp (j + ap)) (fun (j : Nat) => vp (j + ap)) j))
 (fun (j : Nat) =>
 Prod.fst
 (S.at'
 (S.mkl (S.mdN np) fun (j : Nat) =>
 S.mdR np (fun (j : Nat) => tp (j + ap)) (fun (j : Nat) => vp (j + ap)) j)
 j))
 (fun (j : Nat) =>
 Prod.fst
 (Prod.snd
 (S.at'
 (S.mkl (S.mdN np) fun (j : Nat) =>
 S.mdR np (fun (j : Nat) => tp (j + ap)) (fun (j : Nat) => vp (j + ap)) j)
 j)))
 (fun (j : Nat) =>
 Prod.snd
 (Prod.snd
 (S.at'
 (S.mkl (S.mdN np) fun (j : Nat) =>
 S.mdR np (fun (j : Nat) => tp (j + ap)) (fun (j : Nat) => vp (j + ap)) j)
 j)))
 (List.length (S.mkl (S.mdN np) fun (j : Nat) => S.mdB o j))
 (fun (j : Nat) => S.at' (S.mkl (S.mdN np) fun (j : Nat) => S.mdB o j) j)
 (List.length (S.mkl nl fun (j : Nat) => S.inp (tl (j + al)))) fun (j : Nat) =>
 S.at' (S.mkl nl fun (j : Nat) => S.inp (tl (j + al))) j))))
 fun (j : Nat) =>
 (Prod.fst
 (S.at'
 (Prod.fst
 (Prod.snd
 (S.histS
 (List.length
 (S.mkl (S.mdN np) fun (j : Nat) =>
 S.mdR np (fun (j : Nat) => tp (j + ap)) (fun (j : Nat) => vp (j + ap)) j))
 (fun (j : Nat) =>
 Prod.fst
 (S.at'
 (S.mkl (S.mdN np) fun (j : Nat) =>
 S.mdR np (fun (j : Nat) => tp (j + ap)) (fun (j : Nat) => vp (j + ap)) j)
 j))
 (fun (j : Nat) =>
 Prod.fst
 (Prod.snd
 (S.at'
 (S.mkl (S.mdN np) fun (j : Nat) =>
 S.mdR np (fun (j : Nat) => tp (j + ap)) (fun (j : Nat) => vp (j + ap)) j)
 j)))
 (fun (j : Nat) =>
 Prod.snd
 (Prod.snd
 (S.at'
 (S.mkl (S.mdN np) fun (j : Nat) =>
 S.mdR np (fun (j : Nat) => tp (j + ap)) (fun (j : Nat) => vp (j + ap)) j)
 j)))
 (List.length (S.mkl (S.mdN np) fun (j : Nat) => S.mdB o j))
 (fun (j : Nat) => S.at' (S.mkl (S.mdN np) fun (j : Nat) => S.mdB o j) j)
 (List.length (S.mkl nl fun (j : Nat) => S.inp (tl (j + al)))) fun (j : Nat) =>
 S.at' (S.mkl nl fun (j : Nat) => S.inp (tl (j + al))) j)))
 j),
 Prod.fst
 (Prod.snd
 (S.at'
 (Prod.fst
 (Prod.snd
 (S.histS
 (List.length
 (S.mkl (S.mdN np) fun (j : Nat) =>
 S.mdR np (fun (j : Nat) => tp (j + ap)) (fun (j : Nat) => vp (j + ap)) j))
 (fun (j : Nat) =>
 Prod.fst
 (S.at'
 (S.mkl (S.mdN np) fun (j : Nat) =>
 S.mdR np (fun (j : Nat) => tp (j + ap)) (fun (j : Nat) => vp (j + ap)) j)
 j))
 (fun (j : Nat) =>
 Prod.fst
 (Prod.snd
 (S.at'
 (S.mkl (S.mdN np) fun (j : Nat) =>
 S.mdR np (fun (j : Nat) => tp (j + ap)) (fun (j : Nat) => vp (j + ap)) j)
 j)))
 (fun (j : Nat) =>
 Prod.snd
 (Prod.snd
 (S.at'
 (S.mkl (S.mdN np) fun (j : Nat) =>
 S.mdR np (fun (j : Nat) => tp (j + ap)) (fun (j : Nat) => vp (j + ap)) j)
 j)))
 (List.length (S.mkl (S.mdN np) fun (j : Nat) => S.mdB o j))
 (fun (j : Nat) => S.at' (S.mkl (S.mdN np) fun (j : Nat) => S.mdB o j) j)
 (List.length (S.mkl nl fun (j : Nat) => S.inp (tl (j + al)))) fun (j : Nat) =>
 S.at' (S.mkl nl fun (j : Nat) => S.inp (tl (j + al))) j)))
 j)),
 Prod.snd
 (Prod.snd
 (S.at'
 (Prod.fst
 (Prod.snd
 (S.histS
 (List.length
 (S.mkl (S.mdN np) fun (j : Nat) =>
 S.mdR np (fun (j : Nat) => tp (j + ap)) (fun (j : Nat) => vp (j + ap)) j))
 (fun (j : Nat) =>
 Prod.fst
 (S.at'
 (S.mkl (S.mdN np) fun (j : Nat) =>
 S.mdR np (fun (j : Nat) => tp (j + ap)) (fun (j : Nat) => vp (j + ap)) j)
 j))
 (fun (j : Nat) =>
 Prod.fst
 (Prod.snd
 (S.at'
 (S.mkl (S.mdN np) fun (j : Nat) =>
 S.mdR np (fun (j : Nat) => tp (j + ap)) (fun (j : Nat) => vp (j + ap)) j)
 j)))
 (fun (j : Nat) =>
 Prod.snd
 (Prod.snd
 (S.at'
 (S.mkl (S.mdN np) fun (j : Nat) =>
 S.mdR np (fun (j : Nat) => tp (j + ap)) (fun (j : Nat) => vp (j + ap)) j)
 j)))
 (List.length (S.mkl (S.mdN np) fun (j : Nat) => S.mdB o j))
 (fun (j : Nat) => S.at' (S.mkl (S.mdN np) fun (j : Nat) => S.mdB o j) j)
 (List.length (S.mkl nl fun (j : Nat) => S.inp (tl (j + al)))) fun (j : Nat) =>
 S.at' (S.mkl nl fun (j : Nat) => S.inp (tl (j + al))) j)))
 j)))) =
 S.mkl
 (List.length
 (Prod.fst
 (Prod.snd
 (S.histS
 (List.length
 (S.mkl (S.mdN np) fun (j : Nat) =>
 S.mdR np (fun (j : Nat) => tp (j + ap)) (fun (j : Nat) => vp (j + ap)) j))
 (fun (j : Nat) =>
 Prod.fst
 (S.at'
 (S.mkl (S.mdN np) fun (j : Nat) =>
 S.mdR np (fun (j : Nat) => tp (j + ap)) (fun (j : Nat) => vp (j + ap)) j)
 j))
 (fun (j : Nat) =>
 Prod.fst
 (Prod.snd
 (S.at'
 (S.mkl (S.mdN np) fun (j : Nat) =>
 S.mdR np (fun (j : Nat) => tp (j + ap)) (fun (j : Nat) => vp (j + ap)) j)
 j)))
 (fun (j : Nat) =>
 Prod.snd
 (Prod.snd
 (S.at'
 (S.mkl (S.mdN np) fun (j : Nat) =>
 S.mdR np (fun (j : Nat) => tp (j + ap)) (fun (j : Nat) => vp (j + ap)) j)
 j)))
 (List.length (S.mkl (S.mdN np) fun (j : Nat) => S.mdB ones j))
 (fun (j : Nat) => S.at' (S.mkl (S.mdN np) fun (j : Nat) => S.mdB ones j) j)
 (List.length (S.mkl nl fun (j : Nat) => S.inp (tl (j + al)))) fun (j : Nat) =>
 S.at' (S.mkl nl fun (j : Nat) => S.inp (tl (j + al))) j))))
 fun (j : Nat) =>
 (Prod.fst
 (S.at'
 (Prod.fst
 (Prod.snd
 (S.histS
 (List.length
 (S.mkl (S.mdN np) fun (j : Nat) =>
 S.mdR np (fun (j : Nat) => tp (j + ap)) (fun (j : Nat) => vp (j + ap)) j))
 (fun (j : Nat) =>
 Prod.fst
 (S.at'
 (S.mkl (S.mdN np) fun (j : Nat) =>
 S.mdR np (fun (j : Nat) => tp (j + ap)) (fun (j : Nat) => vp (j + ap)) j)
 j))
 (fun (j : Nat) =>
 Prod.fst
 (Prod.snd
 (S.at'
 (S.mkl (S.mdN np) fun (j : Nat) =>
 S.mdR np (fun (j : Nat) => tp (j + ap)) (fun (j : Nat) => vp (j + ap)) j)
 j)))
 (fun (j : Nat) =>
 Prod.snd
 (Prod.snd
 (S.at'
 (S.mkl (S.mdN np) fun (j : Nat) =>
 S.mdR np (fun (j : Nat) => tp (j + ap)) (fun (j : Nat) => vp (j + ap)) j)
 j)))
 (List.length (S.mkl (S.mdN np) fun (j : Nat) => S.mdB ones j))
 (fun (j : Nat) => S.at' (S.mkl (S.mdN np) fun (j : Nat) => S.mdB ones j) j)
 (List.length (S.mkl nl fun (j : Nat) => S.inp (tl (j + al)))) fun (j : Nat) =>
 S.at' (S.mkl nl fun (j : Nat) => S.inp (tl (j + al))) j)))
 j),
 Prod.fst
 (Prod.snd
 (S.at'
 (Prod.fst
 (Prod.snd
 (S.histS
 (List.length
 (S.mkl (S.mdN np) fun (j : Nat) =>
 S.mdR np (fun (j : Nat) => tp (j + ap)) (fun (j : Nat) => vp (j + ap)) j))
 (fun (j : Nat) =>
 Prod.fst
 (S.at'
 (S.mkl (S.mdN np) fun (j : Nat) =>
 S.mdR np (fun (j : Nat) => tp (j + ap)) (fun (j : Nat) => vp (j + ap)) j)
 j))
 (fun (j : Nat) =>
 Prod.fst
 (Prod.snd
 (S.at'
 (S.mkl (S.mdN np) fun (j : Nat) =>
 S.mdR np (fun (j : Nat) => tp (j + ap)) (fun (j : Nat) => vp (j + ap)) j)
 j)))
 (fun (j : Nat) =>
 Prod.snd
 (Prod.snd
 (S.at'
 (S.mkl (S.mdN np) fun (j : Nat) =>
 S.mdR np (fun (j : Nat) => tp (j + ap)) (fun (j : Nat) => vp (j + ap)) j)
 j)))
 (List.length (S.mkl (S.mdN np) fun (j : Nat) => S.mdB ones j))
 (fun (j : Nat) =>
 S.at' (S.mkl (S.mdN np) fun (j : Nat) => S.mdB ones j) j)
 (List.length (S.mkl nl fun (j : Nat) => S.inp (tl (j + al)))) fun (j : Nat) =>
 S.at' (S.mkl nl fun (j : Nat) => S.inp (tl (j + al))) j)))
 j)),
 Prod.snd
 (Prod.snd
 (S.at'
 (Prod.fst
 (Prod.snd
 (S.histS
 (List.length
 (S.mkl (S.mdN np) fun (j : Nat) =>
 S.mdR np (fun (j : Nat) => tp (j + ap)) (fun (j : Nat) => vp (j + ap)) j))
 (fun (j : Nat) =>
 Prod.fst
 (S.at'
 (S.mkl (S.mdN np) fun (j : Nat) =>
 S.mdR np (fun (j : Nat) => tp (j + ap)) (fun (j : Nat) => vp (j + ap)) j)
 j))
 (fun (j : Nat) =>
 Prod.fst
 (Prod.snd
 (S.at'
 (S.mkl (S.mdN np) fun (j : Nat) =>
 S.mdR np (fun (j : Nat) => tp (j + ap)) (fun (j : Nat) => vp (j + ap)) j)
 j)))
 (fun (j : Nat) =>
 Prod.snd
 (Prod.snd
 (S.at'
 (S.mkl (S.mdN np) fun (j : Nat) =>
 S.mdR np (fun (j : Nat) => tp (j + ap)) (fun (j : Nat) => vp (j + ap)) j)
 j)))
 (List.length (S.mkl (S.mdN np) fun (j : Nat) => S.mdB ones j))
 (fun (j : Nat) =>
 S.at' (S.mkl (S.mdN np) fun (j : Nat) => S.mdB ones j) j)
 (List.length (S.mkl nl fun (j : Nat) => S.inp (tl (j + al)))) fun (j : Nat) =>
 S.at' (S.mkl nl fun (j : Nat) => S.inp (tl (j + al))) j)))
 j)))) &&
 decide
 ((S.mkl
 (List.length
 (Prod.snd
 (Prod.snd
 (S.histS
 (List.length
 (S.mkl (S.mdN np) fun (j : Nat) =>
 S.mdR np (fun (j : Nat) => tp (j + ap)) (fun (j : Nat) => vp (j + ap)) j))
 (fun (j : Nat) =>
 Prod.fst
 (S.at'
 (S.mkl (S.mdN np) fun (j : Nat) =>
 S.mdR np (fun (j : Nat) => tp (j + ap)) (fun (j : Nat) => vp (j + ap)) j)
 j))
 (fun (j : Nat) =>
 Prod.fst
 (Prod.snd
 (S.at'
 (S.mkl (S.mdN np) fun (j : Nat) =>
 S.mdR np (fun (j : Nat) => tp (j + ap)) (fun (j : Nat) => vp (j + ap)) j)
 j)))
 (fun (j : Nat) =>
 Prod.snd
 (Prod.snd
 (S.at'
 (S.mkl (S.mdN np) fun (j : Nat) =>
 S.mdR np (fun (j : Nat) => tp (j + ap)) (fun (j : Nat) => vp (j + ap)) j)
 j)))
 (List.length (S.mkl (S.mdN np) fun (j : Nat) => S.mdB o j))
 (fun (j : Nat) => S.at' (S.mkl (S.mdN np) fun (j : Nat) => S.mdB o j) j)
 (List.length (S.mkl nl fun (j : Nat) => S.inp (tl (j + al)))) fun (j : Nat) =>
 S.at' (S.mkl nl fun (j : Nat) => S.inp (tl (j + al))) j))))
 fun (j : Nat) =>
 S.at'
 (Prod.snd
 (Prod.snd
 (S.histS
 (List.length
 (S.mkl (S.mdN np) fun (j : Nat) =>
 S.mdR np (fun (j : Nat) => tp (j + ap)) (fun (j : Nat) => vp (j + ap)) j))
 (fun (j : Nat) =>
 Prod.fst
 (S.at'
 (S.mkl (S.mdN np) fun (j : Nat) =>
 S.mdR np (fun (j : Nat) => tp (j + ap)) (fun (j : Nat) => vp (j + ap)) j)
 j))
 (fun (j : Nat) =>
 Prod.fst
 (Prod.snd
 (S.at'
 (S.mkl (S.mdN np) fun (j : Nat) =>
 S.mdR np (fun (j : Nat) => tp (j + ap)) (fun (j : Nat) => vp (j + ap)) j)
 j)))
 (fun (j : Nat) =>
 Prod.snd
 (Prod.snd
 (S.at'
 (S.mkl (S.mdN np) fun (j : Nat) =>
 S.mdR np (fun (j : Nat) => tp (j + ap)) (fun (j : Nat) => vp (j + ap)) j)
 j)))
 (List.length (S.mkl (S.mdN np) fun (j : Nat) => S.mdB o j))
 (fun (j : Nat) => S.at' (S.mkl (S.mdN np) fun (j : Nat) => S.mdB o j) j)
 (List.length (S.mkl nl fun (j : Nat) => S.inp (tl (j + al)))) fun (j : Nat) =>
 S.at' (S.mkl nl fun (j : Nat) => S.inp (tl (j + al))) j)))
 j) =
 S.mkl
 (List.length
 (Prod.snd
 (Prod.snd
 (S.histS
 (List.length
 (S.mkl (S.mdN np) fun (j : Nat) =>
 S.mdR np (fun (j : Nat) => tp (j + ap)) (fun (j : Nat) => vp (j + ap)) j))
 (fun (j : Nat) =>
 Prod.fst
 (S.at'
 (S.mkl (S.mdN np) fun (j : Nat) =>
 S.mdR np (fun (j : Nat) => tp (j + ap)) (fun (j : Nat) => vp (j + ap)) j)
 j))
 (fun (j : Nat) =>
 Prod.fst
 (Prod.snd
 (S.at'
 (S.mkl (S.mdN np) fun (j : Nat) =>
 S.mdR np (fun (j : Nat) => tp (j + ap)) (fun (j : Nat) => vp (j + ap)) j)
 j)))
 (fun (j : Nat) =>
 Prod.snd
 (Prod.snd
 (S.at'
 (S.mkl (S.mdN np) fun (j : Nat) =>
 S.mdR np (fun (j : Nat) => tp (j + ap)) (fun (j : Nat) => vp (j + ap)) j)
 j)))
 (List.length (S.mkl (S.mdN np) fun (j : Nat) => S.mdB ones j))
 (fun (j : Nat) => S.at' (S.mkl (S.mdN np) fun (j : Nat) => S.mdB ones j) j)
 (List.length (S.mkl nl fun (j : Nat) => S.inp (tl (j + al)))) fun (j : Nat) =>
 S.at' (S.mkl nl fun (j : Nat) => S.inp (tl (j + al))) j))))
 fun (j : Nat) =>
 S.at'
 (Prod.snd
 (Prod.snd
 (S.histS
 (List.length
 (S.mkl (S.mdN np) fun (j : Nat) =>
 S.mdR np (fun (j : Nat) => tp (j + ap)) (fun (j : Nat) => vp (j + ap)) j))
 (fun (j : Nat) =>
 Prod.fst
 (S.at'
 (S.mkl (S.mdN np) fun (j : Nat) =>
 S.mdR np (fun (j : Nat) => tp (j + ap)) (fun (j : Nat) => vp (j + ap)) j)
 j))
 (fun (j : Nat) =>
 Prod.fst
 (Prod.snd
 (S.at'
 (S.mkl (S.mdN np) fun (j : Nat) =>
 S.mdR np (fun (j : Nat) => tp (j + ap)) (fun (j : Nat) => vp (j + ap)) j)
 j)))
 (fun (j : Nat) =>
 Prod.snd
 (Prod.snd
 (S.at'
 (S.mkl (S.mdN np) fun (j : Nat) =>
 S.mdR np (fun (j : Nat) => tp (j + ap)) (fun (j : Nat) => vp (j + ap)) j)
 j)))
 (List.length (S.mkl (S.mdN np) fun (j : Nat) => S.mdB ones j))
 (fun (j : Nat) => S.at' (S.mkl (S.mdN np) fun (j : Nat) => S.mdB ones j) j)
 (List.length (S.mkl nl fun (j : Nat) => S.inp (tl (j + al)))) fun (j : Nat) =>
 S.at' (S.mkl nl fun (j : Nat) => S.inp (tl (j + al))) j)))
 j))
 (Kret (PV.tf true) ([[(1, false, Blk.cols ml [Col.int IntKind.u8 tl]),
 (0, false, Blk.cols mp [Col.int IntKind.u8 tp, Col.int IntKind.u8 vp])]]) (39))
 (Kret (PV.tf false) ([[(1, false, Blk.cols ml [Col.int IntKind.u8 tl]),
 (0, false, Blk.cols mp [Col.int IntKind.u8 tp, Col.int IntKind.u8 vp])]]) (39)))
 (False))
 (Kret (PV.tf false) ([[(1, false, Blk.cols ml [Col.int IntKind.u8 tl]),
 (0, false, Blk.cols mp [Col.int IntKind.u8 tp, Col.int IntKind.u8 vp])]]) (38)))
 (False)))))))
 (False))
 (False))
 (False))
 (False))
 (False))
 (False))
 (test (decide
 (0 +
 List.length
 (S.mkl (S.mdN np) fun (j : Nat) =>
 S.mdR np (fun (j : Nat) => tp (j + ap)) (fun (j : Nat) => vp (j + ap)) j) ≤
 List.length
 (S.mkl (S.mdN np) fun (j : Nat) =>
 S.mdR np (fun (j : Nat) => tp (j + ap)) (fun (j : Nat) => vp (j + ap)) j) ∧
 List.length
 (S.mkl (S.mdN np) fun (j : Nat) =>
 S.mdR np (fun (j : Nat) => tp (j + ap)) (fun (j : Nat) => vp (j + ap)) j) ≤
 1000000 ∧
 0 + List.length (S.mkl (S.mdN np) fun (j : Nat) => S.mdB o j) ≤
 List.length (S.mkl (S.mdN np) fun (j : Nat) => S.mdB o j) ∧
 List.length (S.mkl (S.mdN np) fun (j : Nat) => S.mdB o j) ≤ 1000000 ∧
 0 + List.length (S.mkl nl fun (j : Nat) => S.inp (tl (j + al))) ≤
 List.length (S.mkl nl fun (j : Nat) => S.inp (tl (j + al))) ∧
 List.length (S.mkl nl fun (j : Nat) => S.inp (tl (j + al))) ≤ 1000000))
 (test (decide
 (0 +
 List.length
 (S.mkl (S.mdN np) fun (j : Nat) =>
 S.mdR np (fun (j : Nat) => tp (j + ap)) (fun (j : Nat) => vp (j + ap)) j) ≤
 List.length
 (S.mkl (S.mdN np) fun (j : Nat) =>
 S.mdR np (fun (j : Nat) => tp (j + ap)) (fun (j : Nat) => vp (j + ap)) j) ∧
 List.length
 (S.mkl (S.mdN np) fun (j : Nat) =>
 S.mdR np (fun (j : Nat) => tp (j + ap)) (fun (j : Nat) => vp (j + ap)) j) ≤
 1000000 ∧
 0 + List.length (S.mkl (S.mdN np) fun (j : Nat) => S.mdB ones j) ≤
 List.length (S.mkl (S.mdN np) fun (j : Nat) => S.mdB ones j) ∧
 List.length (S.mkl (S.mdN np) fun (j : Nat) => S.mdB ones j) ≤ 1000000 ∧
 0 + List.length (S.mkl nl fun (j : Nat) => S.inp (tl (j + al))) ≤
 List.length (S.mkl nl fun (j : Nat) => S.inp (tl (j + al))) ∧
 List.length (S.mkl nl fun (j : Nat) => S.inp (tl (j + al))) ≤ 1000000))
 (test (decide
 (ap + np ≤ mp ∧
 (S.bytes np fun (j : Nat) => tp (j + ap)) = true ∧
 (S.bytes np fun (j : Nat) => vp (j + ap)) = true))
 (test (decide
 (0 +
 List.length
 (S.mkl (S.mdN np) fun (j : Nat) =>
 S.mdR np (fun (j : Nat) => tp (j + ap)) (fun (j : Nat) => vp (j + ap)) j) ≤
 List.length
 (S.mkl (S.mdN np) fun (j : Nat) =>
 S.mdR np (fun (j : Nat) => tp (j + ap)) (fun (j : Nat) => vp (j + ap)) j) ∧
 List.length
 (S.mkl (S.mdN np) fun (j : Nat) =>
 S.mdR np (fun (j : Nat) => tp (j + ap)) (fun (j : Nat) => vp (j + ap)) j) ≤
 1000000 ∧
 0 + List.length (S.mkl (S.mdN np) fun (j : Nat) => S.mdB (0 : Int) j) ≤
 List.length (S.mkl (S.mdN np) fun (j : Nat) => S.mdB (0 : Int) j) ∧
 List.length (S.mkl (S.mdN np) fun (j : Nat) => S.mdB (0 : Int) j) ≤ 1000000 ∧
 0 + List.length (S.mkl nl fun (j : Nat) => S.inp (tl (j + al))) ≤
 List.length (S.mkl nl fun (j : Nat) => S.inp (tl (j + al))) ∧
 List.length (S.mkl nl fun (j : Nat) => S.inp (tl (j + al))) ≤ 1000000))
 (test (decide
 (ap + np ≤ mp ∧
 (S.bytes np fun (j : Nat) => tp (j + ap)) = true ∧
 (S.bytes np fun (j : Nat) => vp (j + ap)) = true))
 (test (decide
 (0 +
 List.length
 (S.mkl (S.mdN np) fun (j : Nat) =>
 S.mdR np (fun (j : Nat) => tp (j + ap)) (fun (j : Nat) => vp (j + ap)) j) ≤
 List.length
 (S.mkl (S.mdN np) fun (j : Nat) =>
 S.mdR np (fun (j : Nat) => tp (j + ap)) (fun (j : Nat) => vp (j + ap)) j) ∧
 List.length
 (S.mkl (S.mdN np) fun (j : Nat) =>
 S.mdR np (fun (j : Nat) => tp (j + ap)) (fun (j : Nat) => vp (j + ap)) j) ≤
 1000000 ∧
 0 + List.length (S.mkl (S.mdN np) fun (j : Nat) => S.mdB (4095 : Int) j) ≤
 List.length (S.mkl (S.mdN np) fun (j : Nat) => S.mdB (4095 : Int) j) ∧
 List.length (S.mkl (S.mdN np) fun (j : Nat) => S.mdB (4095 : Int) j) ≤ 1000000 ∧
 0 + List.length (S.mkl nl fun (j : Nat) => S.inp (tl (j + al))) ≤
 List.length (S.mkl nl fun (j : Nat) => S.inp (tl (j + al))) ∧
 List.length (S.mkl nl fun (j : Nat) => S.inp (tl (j + al))) ≤ 1000000))
 (test (Prod.snd
 (S.erS
 (List.length
 (S.mkl (S.mdN np) fun (j : Nat) =>
 S.mdR np (fun (j : Nat) => tp (j + ap)) (fun (j : Nat) => vp (j + ap)) j))
 (fun (j : Nat) =>
 Prod.fst
 (S.at'
 (S.mkl (S.mdN np) fun (j : Nat) =>
 S.mdR np (fun (j : Nat) => tp (j + ap)) (fun (j : Nat) => vp (j + ap)) j)
 j))
 (fun (j : Nat) =>
 Prod.fst
 (Prod.snd
 (S.at'
 (S.mkl (S.mdN np) fun (j : Nat) =>
 S.mdR np (fun (j : Nat) => tp (j + ap)) (fun (j : Nat) => vp (j + ap)) j)
 j)))
 (fun (j : Nat) =>
 Prod.snd
 (Prod.snd
 (S.at'
 (S.mkl (S.mdN np) fun (j : Nat) =>
 S.mdR np (fun (j : Nat) => tp (j + ap)) (fun (j : Nat) => vp (j + ap)) j)
 j)))
 (List.length (S.mkl (S.mdN np) fun (j : Nat) => S.mdB o j))
 (List.length (S.mkl nl fun (j : Nat) => S.inp (tl (j + al)))) fun (j : Nat) =>
 S.at' (S.mkl nl fun (j : Nat) => S.inp (tl (j + al))) j) !=
 (0 : Int))
 (Kret (PV.tf false) ([[(1, false, Blk.cols ml [Col.int IntKind.u8 tl]),
 (0, false, Blk.cols mp [Col.int IntKind.u8 tp, Col.int IntKind.u8 vp])]]) (37))
 (test (Prod.fst
 (S.histS
 (List.length
 (S.mkl (S.mdN np) fun (j : Nat) =>
 S.mdR np (fun (j : Nat) => tp (j + ap)) (fun (j : Nat) => vp (j + ap)) j))
 (fun (j : Nat) =>
 Prod.fst
 (S.at'
 (S.mkl (S.mdN np) fun (j : Nat) =>
 S.mdR np (fun (j : Nat) => tp (j + ap)) (fun (j : Nat) => vp (j + ap)) j)
 j))
 (fun (j : Nat) =>
 Prod.fst
 (Prod.snd
 (S.at'
 (S.mkl (S.mdN np) fun (j : Nat) =>
 S.mdR np (fun (j : Nat) => tp (j + ap)) (fun (j : Nat) => vp (j + ap)) j)
 j)))
 (fun (j : Nat) =>
 Prod.snd
 (Prod.snd
 (S.at'
 (S.mkl (S.mdN np) fun (j : Nat) =>
 S.mdR np (fun (j : Nat) => tp (j + ap)) (fun (j : Nat) => vp (j + ap)) j)
 j)))
 (List.length (S.mkl (S.mdN np) fun (j : Nat) => S.mdB o j))
 (fun (j : Nat) => S.at' (S.mkl (S.mdN np) fun (j : Nat) => S.mdB o j) j)
 (List.length (S.mkl nl fun (j : Nat) => S.inp (tl (j + al)))) fun (j : Nat) =>
 S.at' (S.mkl nl fun (j : Nat) => S.inp (tl (j + al))) j) !=
 (0 : Int))
 (Kret (PV.tf false) ([[(1, false, Blk.cols ml [Col.int IntKind.u8 tl]),
 (0, false, Blk.cols mp [Col.int IntKind.u8 tp, Col.int IntKind.u8 vp])]]) (37))
 (test (Prod.fst
 (S.histS
 (List.length
 (S.mkl (S.mdN np) fun (j : Nat) =>
 S.mdR np (fun (j : Nat) => tp (j + ap)) (fun (j : Nat) => vp (j + ap)) j))
 (fun (j : Nat) =>
 Prod.fst
 (S.at'
 (S.mkl (S.mdN np) fun (j : Nat) =>
 S.mdR np (fun (j : Nat) => tp (j + ap)) (fun (j : Nat) => vp (j + ap)) j)
 j))
 (fun (j : Nat) =>
 Prod.fst
 (Prod.snd
 (S.at'
 (S.mkl (S.mdN np) fun (j : Nat) =>
 S.mdR np (fun (j : Nat) => tp (j + ap)) (fun (j : Nat) => vp (j + ap)) j)
 j)))
 (fun (j : Nat) =>
 Prod.snd
 (Prod.snd
 (S.at'
 (S.mkl (S.mdN np) fun (j : Nat) =>
 S.mdR np (fun (j : Nat) => tp (j + ap)) (fun (j : Nat) => vp (j + ap)) j)
 j)))
 (List.length (S.mkl (S.mdN np) fun (j : Nat) => S.mdB ones j))
 (fun (j : Nat) => S.at' (S.mkl (S.mdN np) fun (j : Nat) => S.mdB ones j) j)
 (List.length (S.mkl nl fun (j : Nat) => S.inp (tl (j + al)))) fun (j : Nat) =>
 S.at' (S.mkl nl fun (j : Nat) => S.inp (tl (j + al))) j) !=
 (0 : Int))
 (Kret (PV.tf false) ([[(1, false, Blk.cols ml [Col.int IntKind.u8 tl]),
 (0, false, Blk.cols mp [Col.int IntKind.u8 tp, Col.int IntKind.u8 vp])]]) (37))
 (test (Prod.fst
 (S.histS
 (List.length
 (S.mkl (S.mdN np) fun (j : Nat) =>
 S.mdR np (fun (j : Nat) => tp (j + ap)) (fun (j : Nat) => vp (j + ap)) j))
 (fun (j : Nat) =>
 Prod.fst
 (S.at'
 (S.mkl (S.mdN np) fun (j : Nat) =>
 S.mdR np (fun (j : Nat) => tp (j + ap)) (fun (j : Nat) => vp (j + ap)) j)
 j))
 (fun (j : Nat) =>
 Prod.fst
 (Prod.snd
 (S.at'
 (S.mkl (S.mdN np) fun (j : Nat) =>
 S.mdR np (fun (j : Nat) => tp (j + ap)) (fun (j : Nat) => vp (j + ap)) j)
 j)))
 (fun (j : Nat) =>
 Prod.snd
 (Prod.snd
 (S.at'
 (S.mkl (S.mdN np) fun (j : Nat) =>
 S.mdR np (fun (j : Nat) => tp (j + ap)) (fun (j : Nat) => vp (j + ap)) j)
 j)))
 (List.length (S.mkl (S.mdN np) fun (j : Nat) => S.mdB (0 : Int) j))
 (fun (j : Nat) => S.at' (S.mkl (S.mdN np) fun (j : Nat) => S.mdB (0 : Int) j) j)
 (List.length (S.mkl nl fun (j : Nat) => S.inp (tl (j + al)))) fun (j : Nat) =>
 S.at' (S.mkl nl fun (j : Nat) => S.inp (tl (j + al))) j) !=
 (0 : Int))
 (Kret (PV.tf false) ([[(1, false, Blk.cols ml [Col.int IntKind.u8 tl]),
 (0, false, Blk.cols mp [Col.int IntKind.u8 tp, Col.int IntKind.u8 vp])]]) (37))
 (test (Prod.fst
 (S.histS
 (List.length
 (S.mkl (S.mdN np) fun (j : Nat) =>
 S.mdR np (fun (j : Nat) => tp (j + ap)) (fun (j : Nat) => vp (j + ap)) j))
 (fun (j : Nat) =>
 Prod.fst
 (S.at'
 (S.mkl (S.mdN np) fun (j : Nat) =>
 S.mdR np (fun (j : Nat) => tp (j + ap)) (fun (j : Nat) => vp (j + ap)) j)
 j))
 (fun (j : Nat) =>
 Prod.fst
 (Prod.snd
 (S.at'
 (S.mkl (S.mdN np) fun (j : Nat) =>
 S.mdR np (fun (j : Nat) => tp (j + ap)) (fun (j : Nat) => vp (j + ap)) j)
 j)))
 (fun (j : Nat) =>
 Prod.snd
 (Prod.snd
 (S.at'
 (S.mkl (S.mdN np) fun (j : Nat) =>
 S.mdR np (fun (j : Nat) => tp (j + ap)) (fun (j : Nat) => vp (j + ap)) j)
 j)))
 (List.length (S.mkl (S.mdN np) fun (j : Nat) => S.mdB (4095 : Int) j))
 (fun (j : Nat) => S.at' (S.mkl (S.mdN np) fun (j : Nat) => S.mdB (4095 : Int) j) j)
 (List.length (S.mkl nl fun (j : Nat) => S.inp (tl (j + al)))) fun (j : Nat) =>
 S.at' (S.mkl nl fun (j : Nat) => S.inp (tl (j + al))) j) !=
 (0 : Int))
 (Kret (PV.tf false) ([[(1, false, Blk.cols ml [Col.int IntKind.u8 tl]),
 (0, false, Blk.cols mp [Col.int IntKind.u8 tp, Col.int IntKind.u8 vp])]]) (37))
 (test (decide
 (0 +
 List.length
 (Prod.fst
 (Prod.snd
 (S.histS
 (List.length
 (S.mkl (S.mdN np) fun (j : Nat) =>
 S.mdR np (fun (j : Nat) => tp (j + ap)) (fun (j : Nat) => vp (j + ap)) j))
 (fun (j : Nat) =>
 Prod.fst
 (S.at'
 (S.mkl (S.mdN np) fun (j : Nat) =>
 S.mdR np (fun (j : Nat) => tp (j + ap)) (fun (j : Nat) => vp (j + ap)) j)
 j))
 (fun (j : Nat) =>
 Prod.fst
 (Prod.snd
 (S.at'
 (S.mkl (S.mdN np) fun (j : Nat) =>
 S.mdR np (fun (j : Nat) => tp (j + ap)) (fun (j : Nat) => vp (j + ap)) j)
 j)))
 (fun (j : Nat) =>
 Prod.snd
 (Prod.snd
 (S.at'
 (S.mkl (S.mdN np) fun (j : Nat) =>
 S.mdR np (fun (j : Nat) => tp (j + ap)) (fun (j : Nat) => vp (j + ap)) j)
 j)))
 (List.length (S.mkl (S.mdN np) fun (j : Nat) => S.mdB (0 : Int) j))
 (fun (j : Nat) => S.at' (S.mkl (S.mdN np) fun (j : Nat) => S.mdB (0 : Int) j) j)
 (List.length (S.mkl nl fun (j : Nat) => S.inp (tl (j + al)))) fun (j : Nat) =>
 S.at' (S.mkl nl fun (j : Nat) => S.inp (tl (j + al))) j))) ≤
 List.length
 (Prod.fst
 (Prod.snd
 (S.histS
 (List.length
 (S.mkl (S.mdN np) fun (j : Nat) =>
 S.mdR np (fun (j : Nat) => tp (j + ap)) (fun (j : Nat) => vp (j + ap)) j))
 (fun (j : Nat) =>
 Prod.fst
 (S.at'
 (S.mkl (S.mdN np) fun (j : Nat) =>
 S.mdR np (fun (j : Nat) => tp (j + ap)) (fun (j : Nat) => vp (j + ap)) j)
 j))
 (fun (j : Nat) =>
 Prod.fst
 (Prod.snd
 (S.at'
 (S.mkl (S.mdN np) fun (j : Nat) =>
 S.mdR np (fun (j : Nat) => tp (j + ap)) (fun (j : Nat) => vp (j + ap)) j)
 j)))
 (fun (j : Nat) =>
 Prod.snd
 (Prod.snd
 (S.at'
 (S.mkl (S.mdN np) fun (j : Nat) =>
 S.mdR np (fun (j : Nat) => tp (j + ap)) (fun (j : Nat) => vp (j + ap)) j)
 j)))
 (List.length (S.mkl (S.mdN np) fun (j : Nat) => S.mdB (0 : Int) j))
 (fun (j : Nat) => S.at' (S.mkl (S.mdN np) fun (j : Nat) => S.mdB (0 : Int) j) j)
 (List.length (S.mkl nl fun (j : Nat) => S.inp (tl (j + al)))) fun (j : Nat) =>
 S.at' (S.mkl nl fun (j : Nat) => S.inp (tl (j + al))) j))) ∧
 List.length
 (Prod.fst
 (Prod.snd
 (S.histS
 (List.length
 (S.mkl (S.mdN np) fun (j : Nat) =>
 S.mdR np (fun (j : Nat) => tp (j + ap)) (fun (j : Nat) => vp (j + ap)) j))
 (fun (j : Nat) =>
 Prod.fst
 (S.at'
 (S.mkl (S.mdN np) fun (j : Nat) =>
 S.mdR np (fun (j : Nat) => tp (j + ap)) (fun (j : Nat) => vp (j + ap)) j)
 j))
 (fun (j : Nat) =>
 Prod.fst
 (Prod.snd
 (S.at'
 (S.mkl (S.mdN np) fun (j : Nat) =>
 S.mdR np (fun (j : Nat) => tp (j + ap)) (fun (j : Nat) => vp (j + ap)) j)
 j)))
 (fun (j : Nat) =>
 Prod.snd
 (Prod.snd
 (S.at'
 (S.mkl (S.mdN np) fun (j : Nat) =>
 S.mdR np (fun (j : Nat) => tp (j + ap)) (fun (j : Nat) => vp (j + ap)) j)
 j)))
 (List.length (S.mkl (S.mdN np) fun (j : Nat) => S.mdB (0 : Int) j))
 (fun (j : Nat) => S.at' (S.mkl (S.mdN np) fun (j : Nat) => S.mdB (0 : Int) j) j)
 (List.length (S.mkl nl fun (j : Nat) => S.inp (tl (j + al)))) fun (j : Nat) =>
 S.at' (S.mkl nl fun (j : Nat) => S.inp (tl (j + al))) j))) ≤
 1000000 ∧
 0 +
 List.length
 (Prod.snd
 (Prod.snd
 (S.histS
 (List.length
 (S.mkl (S.mdN np) fun (j : Nat) =>
 S.mdR np (fun (j : Nat) => tp (j + ap)) (fun (j : Nat) => vp (j + ap)) j))
 (fun (j : Nat) =>
 Prod.fst
 (S.at'
 (S.mkl (S.mdN np) fun (j : Nat) =>
 S.mdR np (fun (j : Nat) => tp (j + ap)) (fun (j : Nat) => vp (j + ap)) j)
 j))
 (fun (j : Nat) =>
 Prod.fst
 (Prod.snd
 (S.at'
 (S.mkl (S.mdN np) fun (j : Nat) =>
 S.mdR np (fun (j : Nat) => tp (j + ap)) (fun (j : Nat) => vp (j + ap)) j)
 j)))
 (fun (j : Nat) =>
 Prod.snd
 (Prod.snd
 (S.at'
 (S.mkl (S.mdN np) fun (j : Nat) =>
 S.mdR np (fun (j : Nat) => tp (j + ap)) (fun (j : Nat) => vp (j + ap)) j)
 j)))
 (List.length (S.mkl (S.mdN np) fun (j : Nat) => S.mdB (0 : Int) j))
 (fun (j : Nat) =>
 S.at' (S.mkl (S.mdN np) fun (j : Nat) => S.mdB (0 : Int) j) j)
 (List.length (S.mkl nl fun (j : Nat) => S.inp (tl (j + al)))) fun (j : Nat) =>
 S.at' (S.mkl nl fun (j : Nat) => S.inp (tl (j + al))) j))) ≤
 List.length
 (Prod.snd
 (Prod.snd
 (S.histS
 (List.length
 (S.mkl (S.mdN np) fun (j : Nat) =>
 S.mdR np (fun (j : Nat) => tp (j + ap)) (fun (j : Nat) => vp (j + ap)) j))
 (fun (j : Nat) =>
 Prod.fst
 (S.at'
 (S.mkl (S.mdN np) fun (j : Nat) =>
 S.mdR np (fun (j : Nat) => tp (j + ap)) (fun (j : Nat) => vp (j + ap)) j)
 j))
 (fun (j : Nat) =>
 Prod.fst
 (Prod.snd
 (S.at'
 (S.mkl (S.mdN np) fun (j : Nat) =>
 S.mdR np (fun (j : Nat) => tp (j + ap)) (fun (j : Nat) => vp (j + ap)) j)
 j)))
 (fun (j : Nat) =>
 Prod.snd
 (Prod.snd
 (S.at'
 (S.mkl (S.mdN np) fun (j : Nat) =>
 S.mdR np (fun (j : Nat) => tp (j + ap)) (fun (j : Nat) => vp (j + ap)) j)
 j)))
 (List.length (S.mkl (S.mdN np) fun (j : Nat) => S.mdB (0 : Int) j))
 (fun (j : Nat) =>
 S.at' (S.mkl (S.mdN np) fun (j : Nat) => S.mdB (0 : Int) j) j)
 (List.length (S.mkl nl fun (j : Nat) => S.inp (tl (j + al)))) fun (j : Nat) =>
 S.at' (S.mkl nl fun (j : Nat) => S.inp (tl (j + al))) j))) ∧
 List.length
 (Prod.snd
 (Prod.snd
 (S.histS
 (List.length
 (S.mkl (S.mdN np) fun (j : Nat) =>
 S.mdR np (fun (j : Nat) => tp (j + ap)) (fun (j : Nat) => vp (j + ap)) j))
 (fun (j : Nat) =>
 Prod.fst
 (S.at'
 (S.mkl (S.mdN np) fun (j : Nat) =>
 S.mdR np (fun (j : Nat) => tp (j + ap)) (fun (j : Nat) => vp (j + ap)) j)
 j))
 (fun (j : Nat) =>
 Prod.fst
 (Prod.snd
 (S.at'
 (S.mkl (S.mdN np) fun (j : Nat) =>
 S.mdR np (fun (j : Nat) => tp (j + ap)) (fun (j : Nat) => vp (j + ap)) j)
 j)))
 (fun (j : Nat) =>
 Prod.snd
 (Prod.snd
 (S.at'
 (S.mkl (S.mdN np) fun (j : Nat) =>
 S.mdR np (fun (j : Nat) => tp (j + ap)) (fun (j : Nat) => vp (j + ap)) j)
 j)))
 (List.length (S.mkl (S.mdN np) fun (j : Nat) => S.mdB (0 : Int) j))
 (fun (j : Nat) =>
 S.at' (S.mkl (S.mdN np) fun (j : Nat) => S.mdB (0 : Int) j) j)
 (List.length (S.mkl nl fun (j : Nat) => S.inp (tl (j + al)))) fun (j : Nat) =>
 S.at' (S.mkl nl fun (j : Nat) => S.inp (tl (j + al))) j))) ≤
 1000000 ∧
 0 +
 List.length
 (Prod.fst
 (Prod.snd
 (S.histS
 (List.length
 (S.mkl (S.mdN np) fun (j : Nat) =>
 S.mdR np (fun (j : Nat) => tp (j + ap)) (fun (j : Nat) => vp (j + ap)) j))
 (fun (j : Nat) =>
 Prod.fst
 (S.at'
 (S.mkl (S.mdN np) fun (j : Nat) =>
 S.mdR np (fun (j : Nat) => tp (j + ap)) (fun (j : Nat) => vp (j + ap)) j)
 j))
 (fun (j : Nat) =>
 Prod.fst
 (Prod.snd
 (S.at'
 (S.mkl (S.mdN np) fun (j : Nat) =>
 S.mdR np (fun (j : Nat) => tp (j + ap)) (fun (j : Nat) => vp (j + ap)) j)
 j)))
 (fun (j : Nat) =>
 Prod.snd
 (Prod.snd
 (S.at'
 (S.mkl (S.mdN np) fun (j : Nat) =>
 S.mdR np (fun (j : Nat) => tp (j + ap)) (fun (j : Nat) => vp (j + ap)) j)
 j)))
 (List.length (S.mkl (S.mdN np) fun (j : Nat) => S.mdB (4095 : Int) j))
 (fun (j : Nat) =>
 S.at' (S.mkl (S.mdN np) fun (j : Nat) => S.mdB (4095 : Int) j) j)
 (List.length (S.mkl nl fun (j : Nat) => S.inp (tl (j + al)))) fun (j : Nat) =>
 S.at' (S.mkl nl fun (j : Nat) => S.inp (tl (j + al))) j))) ≤
 List.length
 (Prod.fst
 (Prod.snd
 (S.histS
 (List.length
 (S.mkl (S.mdN np) fun (j : Nat) =>
 S.mdR np (fun (j : Nat) => tp (j + ap)) (fun (j : Nat) => vp (j + ap)) j))
 (fun (j : Nat) =>
 Prod.fst
 (S.at'
 (S.mkl (S.mdN np) fun (j : Nat) =>
 S.mdR np (fun (j : Nat) => tp (j + ap)) (fun (j : Nat) => vp (j + ap)) j)
 j))
 (fun (j : Nat) =>
 Prod.fst
 (Prod.snd
 (S.at'
 (S.mkl (S.mdN np) fun (j : Nat) =>
 S.mdR np (fun (j : Nat) => tp (j + ap)) (fun (j : Nat) => vp (j + ap)) j)
 j)))
 (fun (j : Nat) =>
 Prod.snd
 (Prod.snd
 (S.at'
 (S.mkl (S.mdN np) fun (j : Nat) =>
 S.mdR np (fun (j : Nat) => tp (j + ap)) (fun (j : Nat) => vp (j + ap)) j)
 j)))
 (List.length (S.mkl (S.mdN np) fun (j : Nat) => S.mdB (4095 : Int) j))
 (fun (j : Nat) =>
 S.at' (S.mkl (S.mdN np) fun (j : Nat) => S.mdB (4095 : Int) j) j)
 (List.length (S.mkl nl fun (j : Nat) => S.inp (tl (j + al)))) fun (j : Nat) =>
 S.at' (S.mkl nl fun (j : Nat) => S.inp (tl (j + al))) j))) ∧
 List.length
 (Prod.fst
 (Prod.snd
 (S.histS
 (List.length
 (S.mkl (S.mdN np) fun (j : Nat) =>
 S.mdR np (fun (j : Nat) => tp (j + ap)) (fun (j : Nat) => vp (j + ap)) j))
 (fun (j : Nat) =>
 Prod.fst
 (S.at'
 (S.mkl (S.mdN np) fun (j : Nat) =>
 S.mdR np (fun (j : Nat) => tp (j + ap)) (fun (j : Nat) => vp (j + ap)) j)
 j))
 (fun (j : Nat) =>
 Prod.fst
 (Prod.snd
 (S.at'
 (S.mkl (S.mdN np) fun (j : Nat) =>
 S.mdR np (fun (j : Nat) => tp (j + ap)) (fun (j : Nat) => vp (j + ap)) j)
 j)))
 (fun (j : Nat) =>
 Prod.snd
 (Prod.snd
 (S.at'
 (S.mkl (S.mdN np) fun (j : Nat) =>
 S.mdR np (fun (j : Nat) => tp (j + ap)) (fun (j : Nat) => vp (j + ap)) j)
 j)))
 (List.length (S.mkl (S.mdN np) fun (j : Nat) => S.mdB (4095 : Int) j))
 (fun (j : Nat) =>
 S.at' (S.mkl (S.mdN np) fun (j : Nat) => S.mdB (4095 : Int) j) j)
 (List.length (S.mkl nl fun (j : Nat) => S.inp (tl (j + al)))) fun (j : Nat) =>
 S.at' (S.mkl nl fun (j : Nat) => S.inp (tl (j + al))) j))) ≤
 1000000 ∧
 0 +
 List.length
 (Prod.snd
 (Prod.snd
 (S.histS
 (List.length
 (S.mkl (S.mdN np) fun (j : Nat) =>
 S.mdR np (fun (j : Nat) => tp (j + ap)) (fun (j : Nat) => vp (j + ap)) j))
 (fun (j : Nat) =>
 Prod.fst
 (S.at'
 (S.mkl (S.mdN np) fun (j : Nat) =>
 S.mdR np (fun (j : Nat) => tp (j + ap)) (fun (j : Nat) => vp (j + ap)) j)
 j))
 (fun (j : Nat) =>
 Prod.fst
 (Prod.snd
 (S.at'
 (S.mkl (S.mdN np) fun (j : Nat) =>
 S.mdR np (fun (j : Nat) => tp (j + ap)) (fun (j : Nat) => vp (j + ap)) j)
 j)))
 (fun (j : Nat) =>
 Prod.snd
 (Prod.snd
 (S.at'
 (S.mkl (S.mdN np) fun (j : Nat) =>
 S.mdR np (fun (j : Nat) => tp (j + ap)) (fun (j : Nat) => vp (j + ap)) j)
 j)))
 (List.length (S.mkl (S.mdN np) fun (j : Nat) => S.mdB (4095 : Int) j))
 (fun (j : Nat) =>
 S.at' (S.mkl (S.mdN np) fun (j : Nat) => S.mdB (4095 : Int) j) j)
 (List.length (S.mkl nl fun (j : Nat) => S.inp (tl (j + al)))) fun (j : Nat) =>
 S.at' (S.mkl nl fun (j : Nat) => S.inp (tl (j + al))) j))) ≤
 List.length
 (Prod.snd
 (Prod.snd
 (S.histS
 (List.length
 (S.mkl (S.mdN np) fun (j : Nat) =>
 S.mdR np (fun (j : Nat) => tp (j + ap)) (fun (j : Nat) => vp (j + ap)) j))
 (fun (j : Nat) =>
 Prod.fst
 (S.at'
 (S.mkl (S.mdN np) fun (j : Nat) =>
 S.mdR np (fun (j : Nat) => tp (j + ap)) (fun (j : Nat) => vp (j + ap)) j)
 j))
 (fun (j : Nat) =>
 Prod.fst
 (Prod.snd
 (S.at'
 (S.mkl (S.mdN np) fun (j : Nat) =>
 S.mdR np (fun (j : Nat) => tp (j + ap)) (fun (j : Nat) => vp (j + ap)) j)
 j)))
 (fun (j : Nat) =>
 Prod.snd
 (Prod.snd
 (S.at'
 (S.mkl (S.mdN np) fun (j : Nat) =>
 S.mdR np (fun (j : Nat) => tp (j + ap)) (fun (j : Nat) => vp (j + ap)) j)
 j)))
 (List.length (S.mkl (S.mdN np) fun (j : Nat) => S.mdB (4095 : Int) j))
 (fun (j : Nat) =>
 S.at' (S.mkl (S.mdN np) fun (j : Nat) => S.mdB (4095 : Int) j) j)
 (List.length (S.mkl nl fun (j : Nat) => S.inp (tl (j + al)))) fun (j : Nat) =>
 S.at' (S.mkl nl fun (j : Nat) => S.inp (tl (j + al))) j))) ∧
 List.length
 (Prod.snd
 (Prod.snd
 (S.histS
 (List.length
 (S.mkl (S.mdN np) fun (j : Nat) =>
 S.mdR np (fun (j : Nat) => tp (j + ap)) (fun (j : Nat) => vp (j + ap)) j))
 (fun (j : Nat) =>
 Prod.fst
 (S.at'
 (S.mkl (S.mdN np) fun (j : Nat) =>
 S.mdR np (fun (j : Nat) => tp (j + ap)) (fun (j : Nat) => vp (j + ap)) j)
 j))
 (fun (j : Nat) =>
 Prod.fst
 (Prod.snd
 (S.at'
 (S.mkl (S.mdN np) fun (j : Nat) =>
 S.mdR np (fun (j : Nat) => tp (j + ap)) (fun (j : Nat) => vp (j + ap)) j)
 j)))
 (fun (j : Nat) =>
 Prod.snd
 (Prod.snd
 (S.at'
 (S.mkl (S.mdN np) fun (j : Nat) =>
 S.mdR np (fun (j : Nat) => tp (j + ap)) (fun (j : Nat) => vp (j + ap)) j)
 j)))
 (List.length (S.mkl (S.mdN np) fun (j : Nat) => S.mdB (4095 : Int) j))
 (fun (j : Nat) =>
 S.at' (S.mkl (S.mdN np) fun (j : Nat) => S.mdB (4095 : Int) j) j)
 (List.length (S.mkl nl fun (j : Nat) => S.inp (tl (j + al)))) fun (j : Nat) =>
 S.at' (S.mkl nl fun (j : Nat) => S.inp (tl (j + al))) j))) ≤
 1000000))
 (test (decide
 ((S.mkl
 (List.length
 (Prod.fst
 (Prod.snd
 (S.histS
 (List.length
 (S.mkl (S.mdN np) fun (j : Nat) =>
 S.mdR np (fun (j : Nat) => tp (j + ap)) (fun (j : Nat) => vp (j + ap)) j))
 (fun (j : Nat) =>
 Prod.fst
 (S.at'
 (S.mkl (S.mdN np) fun (j : Nat) =>
 S.mdR np (fun (j : Nat) => tp (j + ap)) (fun (j : Nat) => vp (j + ap)) j)
 j))
 (fun (j : Nat) =>
 Prod.fst
 (Prod.snd
 (S.at'
 (S.mkl (S.mdN np) fun (j : Nat) =>
 S.mdR np (fun (j : Nat) => tp (j + ap)) (fun (j : Nat) => vp (j + ap)) j)
 j)))
 (fun (j : Nat) =>
 Prod.snd
 (Prod.snd
 (S.at'
 (S.mkl (S.mdN np) fun (j : Nat) =>
 S.mdR np (fun (j : Nat) => tp (j + ap)) (fun (j : Nat) => vp (j + ap)) j)
 j)))
 (List.length (S.mkl (S.mdN np) fun (j : Nat) => S.mdB (0 : Int) j))
 (fun (j : Nat) => S.at' (S.mkl (S.mdN np) fun (j : Nat) => S.mdB (0 : Int) j) j)
 (List.length (S.mkl nl fun (j : Nat) => S.inp (tl (j + al)))) fun (j : Nat) =>
 S.at' (S.mkl nl fun (j : Nat) => S.inp (tl (j + al))) j))))
 fun (j : Nat) =>
 (Prod.fst
 (S.at'
 (Prod.fst
 (Prod.snd
 (S.histS
 (List.length
 (S.mkl (S.mdN np) fun (j : Nat) =>
 S.mdR np (fun (j : Nat) => tp (j + ap)) (fun (j : Nat) => vp (j + ap)) j))
 (fun (j : Nat) =>
 Prod.fst
 (S.at'
 (S.mkl (S.mdN np) fun (j : Nat) =>
 S.mdR np (fun (j : Nat) => tp (j + ap)) (fun (j : Nat) => vp (j + ap)) j)
 j))
 (fun (j : Nat) =>
 Prod.fst
 (Prod.snd
 (S.at'
 (S.mkl (S.mdN np) fun (j : Nat) =>
 S.mdR np (fun (j : Nat) => tp (j + ap)) (fun (j : Nat) => vp (j + ap)) j)
 j)))
 (fun (j : Nat) =>
 Prod.snd
 (Prod.snd
 (S.at'
 (S.mkl (S.mdN np) fun (j : Nat) =>
 S.mdR np (fun (j : Nat) => tp (j + ap)) (fun (j : Nat) => vp (j + ap)) j)
 j)))
 (List.length (S.mkl (S.mdN np) fun (j : Nat) => S.mdB (0 : Int) j))
 (fun (j : Nat) =>
 S.at' (S.mkl (S.mdN np) fun (j : Nat) => S.mdB (0 : Int) j) j)
 (List.length (S.mkl nl fun (j : Nat) => S.inp (tl (j + al)))) fun (j : Nat) =>
 S.at' (S.mkl nl fun (j : Nat) => S.inp (tl (j + al))) j)))
 j),
 Prod.fst
 (Prod.snd
 (S.at'
 (Prod.fst
 (Prod.snd
 (S.histS
 (List.length
 (S.mkl (S.mdN np) fun (j : Nat) =>
 S.mdR np (fun (j : Nat) => tp (j + ap)) (fun (j : Nat) => vp (j + ap)) j))
 (fun (j : Nat) =>
 Prod.fst
 (S.at'
 (S.mkl (S.mdN np) fun (j : Nat) =>
 S.mdR np (fun (j : Nat) => tp (j + ap)) (fun (j : Nat) => vp (j + ap)) j)
 j))
 (fun (j : Nat) =>
 Prod.fst
 (Prod.snd
 (S.at'
 (S.mkl (S.mdN np) fun (j : Nat) =>
 S.mdR np (fun (j : Nat) => tp (j + ap)) (fun (j : Nat) => vp (j + ap)) j)
 j)))
 (fun (j : Nat) =>
 Prod.snd
 (Prod.snd
 (S.at'
 (S.mkl (S.mdN np) fun (j : Nat) =>
 S.mdR np (fun (j : Nat) => tp (j + ap)) (fun (j : Nat) => vp (j + ap)) j)
 j)))
 (List.length (S.mkl (S.mdN np) fun (j : Nat) => S.mdB (0 : Int) j))
 (fun (j : Nat) =>
 S.at' (S.mkl (S.mdN np) fun (j : Nat) => S.mdB (0 : Int) j) j)
 (List.length (S.mkl nl fun (j : Nat) => S.inp (tl (j + al)))) fun (j : Nat) =>
 S.at' (S.mkl nl fun (j : Nat) => S.inp (tl (j + al))) j)))
 j)),
 Prod.snd
 (Prod.snd
 (S.at'
 (Prod.fst
 (Prod.snd
 (S.histS
 (List.length
 (S.mkl (S.mdN np) fun (j : Nat) =>
 S.mdR np (fun (j : Nat) => tp (j + ap)) (fun (j : Nat) => vp (j + ap)) j))
 (fun (j : Nat) =>
 Prod.fst
 (S.at'
 (S.mkl (S.mdN np) fun (j : Nat) =>
 S.mdR np (fun (j : Nat) => tp (j + ap)) (fun (j : Nat) => vp (j + ap)) j)
 j))
 (fun (j : Nat) =>
 Prod.fst
 (Prod.snd
 (S.at'
 (S.mkl (S.mdN np) fun (j : Nat) =>
 S.mdR np (fun (j : Nat) => tp (j + ap)) (fun (j : Nat) => vp (j + ap)) j)
 j)))
 (fun (j : Nat) =>
 Prod.snd
 (Prod.snd
 (S.at'
 (S.mkl (S.mdN np) fun (j : Nat) =>
 S.mdR np (fun (j : Nat) => tp (j + ap)) (fun (j : Nat) => vp (j + ap)) j)
 j)))
 (List.length (S.mkl (S.mdN np) fun (j : Nat) => S.mdB (0 : Int) j))
 (fun (j : Nat) =>
 S.at' (S.mkl (S.mdN np) fun (j : Nat) => S.mdB (0 : Int) j) j)
 (List.length (S.mkl nl fun (j : Nat) => S.inp (tl (j + al)))) fun (j : Nat) =>
 S.at' (S.mkl nl fun (j : Nat) => S.inp (tl (j + al))) j)))
 j)))) =
 S.mkl
 (List.length
 (Prod.fst
 (Prod.snd
 (S.histS
 (List.length
 (S.mkl (S.mdN np) fun (j : Nat) =>
 S.mdR np (fun (j : Nat) => tp (j + ap)) (fun (j : Nat) => vp (j + ap)) j))
 (fun (j : Nat) =>
 Prod.fst
 (S.at'
 (S.mkl (S.mdN np) fun (j : Nat) =>
 S.mdR np (fun (j : Nat) => tp (j + ap)) (fun (j : Nat) => vp (j + ap)) j)
 j))
 (fun (j : Nat) =>
 Prod.fst
 (Prod.snd
 (S.at'
 (S.mkl (S.mdN np) fun (j : Nat) =>
 S.mdR np (fun (j : Nat) => tp (j + ap)) (fun (j : Nat) => vp (j + ap)) j)
 j)))
 (fun (j : Nat) =>
 Prod.snd
 (Prod.snd
 (S.at'
 (S.mkl (S.mdN np) fun (j : Nat) =>
 S.mdR np (fun (j : Nat) => tp (j + ap)) (fun (j : Nat) => vp (j + ap)) j)
 j)))
 (List.length (S.mkl (S.mdN np) fun (j : Nat) => S.mdB (4095 : Int) j))
 (fun (j : Nat) =>
 S.at' (S.mkl (S.mdN np) fun (j : Nat) => S.mdB (4095 : Int) j) j)
 (List.length (S.mkl nl fun (j : Nat) => S.inp (tl (j + al)))) fun (j : Nat) =>
 S.at' (S.mkl nl fun (j : Nat) => S.inp (tl (j + al))) j))))
 fun (j : Nat) =>
 (Prod.fst
 (S.at'
 (Prod.fst
 (Prod.snd
 (S.histS
 (List.length
 (S.mkl (S.mdN np) fun (j : Nat) =>
 S.mdR np (fun (j : Nat) => tp (j + ap)) (fun (j : Nat) => vp (j + ap)) j))
 (fun (j : Nat) =>
 Prod.fst
 (S.at'
 (S.mkl (S.mdN np) fun (j : Nat) =>
 S.mdR np (fun (j : Nat) => tp (j + ap)) (fun (j : Nat) => vp (j + ap)) j)
 j))
 (fun (j : Nat) =>
 Prod.fst
 (Prod.snd
 (S.at'
 (S.mkl (S.mdN np) fun (j : Nat) =>
 S.mdR np (fun (j : Nat) => tp (j + ap)) (fun (j : Nat) => vp (j + ap)) j)
 j)))
 (fun (j : Nat) =>
 Prod.snd
 (Prod.snd
 (S.at'
 (S.mkl (S.mdN np) fun (j : Nat) =>
 S.mdR np (fun (j : Nat) => tp (j + ap)) (fun (j : Nat) => vp (j + ap)) j)
 j)))
 (List.length (S.mkl (S.mdN np) fun (j : Nat) => S.mdB (4095 : Int) j))
 (fun (j : Nat) =>
 S.at' (S.mkl (S.mdN np) fun (j : Nat) => S.mdB (4095 : Int) j) j)
 (List.length (S.mkl nl fun (j : Nat) => S.inp (tl (j + al)))) fun (j : Nat) =>
 S.at' (S.mkl nl fun (j : Nat) => S.inp (tl (j + al))) j)))
 j),
 Prod.fst
 (Prod.snd
 (S.at'
 (Prod.fst
 (Prod.snd
 (S.histS
 (List.length
 (S.mkl (S.mdN np) fun (j : Nat) =>
 S.mdR np (fun (j : Nat) => tp (j + ap)) (fun (j : Nat) => vp (j + ap)) j))
 (fun (j : Nat) =>
 Prod.fst
 (S.at'
 (S.mkl (S.mdN np) fun (j : Nat) =>
 S.mdR np (fun (j : Nat) => tp (j + ap)) (fun (j : Nat) => vp (j + ap)) j)
 j))
 (fun (j : Nat) =>
 Prod.fst
 (Prod.snd
 (S.at'
 (S.mkl (S.mdN np) fun (j : Nat) =>
 S.mdR np (fun (j : Nat) => tp (j + ap)) (fun (j : Nat) => vp (j + ap)) j)
 j)))
 (fun (j : Nat) =>
 Prod.snd
 (Prod.snd
 (S.at'
 (S.mkl (S.mdN np) fun (j : Nat) =>
 S.mdR np (fun (j : Nat) => tp (j + ap)) (fun (j : Nat) => vp (j + ap)) j)
 j)))
 (List.length (S.mkl (S.mdN np) fun (j : Nat) => S.mdB (4095 : Int) j))
 (fun (j : Nat) =>
 S.at' (S.mkl (S.mdN np) fun (j : Nat) => S.mdB (4095 : Int) j) j)
 (List.length (S.mkl nl fun (j : Nat) => S.inp (tl (j + al)))) fun (j : Nat) =>
 S.at' (S.mkl nl fun (j : Nat) => S.inp (tl (j + al))) j)))
 j)),
 Prod.snd
 (Prod.snd
 (S.at'
 (Prod.fst
 (Prod.snd
 (S.histS
 (List.length
 (S.mkl (S.mdN np) fun (j : Nat) =>
 S.mdR np (fun (j : Nat) => tp (j + ap)) (fun (j : Nat) => vp (j + ap)) j))
 (fun (j : Nat) =>
 Prod.fst
 (S.at'
 (S.mkl (S.mdN np) fun (j : Nat) =>
 S.mdR np (fun (j : Nat) => tp (j + ap)) (fun (j : Nat) => vp (j + ap)) j)
 j))
 (fun (j : Nat) =>
 Prod.fst
 (Prod.snd
 (S.at'
 (S.mkl (S.mdN np) fun (j : Nat) =>
 S.mdR np (fun (j : Nat) => tp (j + ap)) (fun (j : Nat) => vp (j + ap)) j)
 j)))
 (fun (j : Nat) =>
 Prod.snd
 (Prod.snd
 (S.at'
 (S.mkl (S.mdN np) fun (j : Nat) =>
 S.mdR np (fun (j : Nat) => tp (j + ap)) (fun (j : Nat) => vp (j + ap)) j)
 j)))
 (List.length (S.mkl (S.mdN np) fun (j : Nat) => S.mdB (4095 : Int) j))
 (fun (j : Nat) =>
 S.at' (S.mkl (S.mdN np) fun (j : Nat) => S.mdB (4095 : Int) j) j)
 (List.length (S.mkl nl fun (j : Nat) => S.inp (tl (j + al)))) fun (j : Nat) =>
 S.at' (S.mkl nl fun (j : Nat) => S.inp (tl (j + al))) j)))
 j)))) &&
 decide
 ((S.mkl
 (List.length
 (Prod.snd
 (Prod.snd
 (S.histS
 (List.length
 (S.mkl (S.mdN np) fun (j : Nat) =>
 S.mdR np (fun (j : Nat) => tp (j + ap)) (fun (j : Nat) => vp (j + ap)) j))
 (fun (j : Nat) =>
 Prod.fst
 (S.at'
 (S.mkl (S.mdN np) fun (j : Nat) =>
 S.mdR np (fun (j : Nat) => tp (j + ap)) (fun (j : Nat) => vp (j + ap)) j)
 j))
 (fun (j : Nat) =>
 Prod.fst
 (Prod.snd
 (S.at'
 (S.mkl (S.mdN np) fun (j : Nat) =>
 S.mdR np (fun (j : Nat) => tp (j + ap)) (fun (j : Nat) => vp (j + ap)) j)
 j)))
 (fun (j : Nat) =>
 Prod.snd
 (Prod.snd
 (S.at'
 (S.mkl (S.mdN np) fun (j : Nat) =>
 S.mdR np (fun (j : Nat) => tp (j + ap)) (fun (j : Nat) => vp (j + ap)) j)
 j)))
 (List.length (S.mkl (S.mdN np) fun (j : Nat) => S.mdB (0 : Int) j))
 (fun (j : Nat) => S.at' (S.mkl (S.mdN np) fun (j : Nat) => S.mdB (0 : Int) j) j)
 (List.length (S.mkl nl fun (j : Nat) => S.inp (tl (j + al)))) fun (j : Nat) =>
 S.at' (S.mkl nl fun (j : Nat) => S.inp (tl (j + al))) j))))
 fun (j : Nat) =>
 S.at'
 (Prod.snd
 (Prod.snd
 (S.histS
 (List.length
 (S.mkl (S.mdN np) fun (j : Nat) =>
 S.mdR np (fun (j : Nat) => tp (j + ap)) (fun (j : Nat) => vp (j + ap)) j))
 (fun (j : Nat) =>
 Prod.fst
 (S.at'
 (S.mkl (S.mdN np) fun (j : Nat) =>
 S.mdR np (fun (j : Nat) => tp (j + ap)) (fun (j : Nat) => vp (j + ap)) j)
 j))
 (fun (j : Nat) =>
 Prod.fst
 (Prod.snd
 (S.at'
 (S.mkl (S.mdN np) fun (j : Nat) =>
 S.mdR np (fun (j : Nat) => tp (j + ap)) (fun (j : Nat) => vp (j + ap)) j)
 j)))
 (fun (j : Nat) =>
 Prod.snd
 (Prod.snd
 (S.at'
 (S.mkl (S.mdN np) fun (j : Nat) =>
 S.mdR np (fun (j : Nat) => tp (j + ap)) (fun (j : Nat) => vp (j + ap)) j)
 j)))
 (List.length (S.mkl (S.mdN np) fun (j : Nat) => S.mdB (0 : Int) j))
 (fun (j : Nat) => S.at' (S.mkl (S.mdN np) fun (j : Nat) => S.mdB (0 : Int) j) j)
 (List.length (S.mkl nl fun (j : Nat) => S.inp (tl (j + al)))) fun (j : Nat) =>
 S.at' (S.mkl nl fun (j : Nat) => S.inp (tl (j + al))) j)))
 j) =
 S.mkl
 (List.length
 (Prod.snd
 (Prod.snd
 (S.histS
 (List.length
 (S.mkl (S.mdN np) fun (j : Nat) =>
 S.mdR np (fun (j : Nat) => tp (j + ap)) (fun (j : Nat) => vp (j + ap)) j))
 (fun (j : Nat) =>
 Prod.fst
 (S.at'
 (S.mkl (S.mdN np) fun (j : Nat) =>
 S.mdR np (fun (j : Nat) => tp (j + ap)) (fun (j : Nat) => vp (j + ap)) j)
 j))
 (fun (j : Nat) =>
 Prod.fst
 (Prod.snd
 (S.at'
 (S.mkl (S.mdN np) fun (j : Nat) =>
 S.mdR np (fun (j : Nat) => tp (j + ap)) (fun (j : Nat) => vp (j + ap)) j)
 j)))
 (fun (j : Nat) =>
 Prod.snd
 (Prod.snd
 (S.at'
 (S.mkl (S.mdN np) fun (j : Nat) =>
 S.mdR np (fun (j : Nat) => tp (j + ap)) (fun (j : Nat) => vp (j + ap)) j)
 j)))
 (List.length (S.mkl (S.mdN np) fun (j : Nat) => S.mdB (4095 : Int) j))
 (fun (j : Nat) =>
 S.at' (S.mkl (S.mdN np) fun (j : Nat) => S.mdB (4095 : Int) j) j)
 (List.length (S.mkl nl fun (j : Nat) => S.inp (tl (j + al)))) fun (j : Nat) =>
 S.at' (S.mkl nl fun (j : Nat) => S.inp (tl (j + al))) j))))
 fun (j : Nat) =>
 S.at'
 (Prod.snd
 (Prod.snd
 (S.histS
 (List.length
 (S.mkl (S.mdN np) fun (j : Nat) =>
 S.mdR np (fun (j : Nat) => tp (j + ap)) (fun (j : Nat) => vp (j + ap)) j))
 (fun (j : Nat) =>
 Prod.fst
 (S.at'
 (S.mkl (S.mdN np) fun (j : Nat) =>
 S.mdR np (fun (j : Nat) => tp (j + ap)) (fun (j : Nat) => vp (j + ap)) j)
 j))
 (fun (j : Nat) =>
 Prod.fst
 (Prod.snd
 (S.at'
 (S.mkl (S.mdN np) fun (j : Nat) =>
 S.mdR np (fun (j : Nat) => tp (j + ap)) (fun (j : Nat) => vp (j + ap)) j)
 j)))
 (fun (j : Nat) =>
 Prod.snd
 (Prod.snd
 (S.at'
 (S.mkl (S.mdN np) fun (j : Nat) =>
 S.mdR np (fun (j : Nat) => tp (j + ap)) (fun (j : Nat) => vp (j + ap)) j)
 j)))
 (List.length (S.mkl (S.mdN np) fun (j : Nat) => S.mdB (4095 : Int) j))
 (fun (j : Nat) =>
 S.at' (S.mkl (S.mdN np) fun (j : Nat) => S.mdB (4095 : Int) j) j)
 (List.length (S.mkl nl fun (j : Nat) => S.inp (tl (j + al)))) fun (j : Nat) =>
 S.at' (S.mkl nl fun (j : Nat) => S.inp (tl (j + al))) j)))
 j))
 (Kret (PV.tf false) ([[(1, false, Blk.cols ml [Col.int IntKind.u8 tl]),
 (0, false, Blk.cols mp [Col.int IntKind.u8 tp, Col.int IntKind.u8 vp])]]) (38))
 (Kret (PV.tf true) ([[(1, false, Blk.cols ml [Col.int IntKind.u8 tl]),
 (0, false, Blk.cols mp [Col.int IntKind.u8 tp, Col.int IntKind.u8 vp])]]) (38)))
 (False)))))))
 (False))
 (False))
 (False))
 (False))
 (False))
 (False)))
 (False))
 (False))
 (False))
 (False)))
 (test (true)
 (test (true)
 (Kret (PV.tf true) ([[(1, false, Blk.cols ml [Col.int IntKind.u8 tl]),
 (0, false, Blk.cols mp [Col.int IntKind.u8 tp, Col.int IntKind.u8 vp])]]) (5))
 (Kret (PV.tf false) ([[(1, false, Blk.cols ml [Col.int IntKind.u8 tl]),
 (0, false, Blk.cols mp [Col.int IntKind.u8 tp, Col.int IntKind.u8 vp])]]) (5)))
 (False)))
 (False)
set_option maxRecDepth 100000 in
theorem te9 (test : Bool → Prop → Prop → Prop) (Kst : KS) (Kret : KR) (ap np mp : Nat) (tp : Nat → Int) (vp : Nat → Int) (o : Int) (al nl ml : Nat) (tl : Nat → Int) (ones : Int) : run test Try.env true (yE3 test) true 400 ⟨9, [.cd (mkFn Try.f9).body], argT 0 [.agg [.loose ⟨0, 2, ap, 0⟩ np, .int .u32 o], .loose ⟨1, 1, al, 0⟩ nl, .int .u32 ones], [[], [(0, (false, .cols mp [.int .u8 tp, .int .u8 vp])), (1, (false, .cols ml [.int .u8 tl]))]], 2⟩ (proj 2 [] Kst Kret) =
  Te9 test Kst Kret ap np mp tp vp o al nl ml tl ones := by kernel_rfl
set_option maxRecDepth 100000 in
theorem be9 (ap np mp : Nat) (tp : Nat → Int) (vp : Nat → Int) (o : Int) (al nl ml : Nat) (tl : Nat → Int) (ones : Int) (Kst : KS) (Kret : KR) (x : St9 ⊕ Rt9) (hS : HS 2 400 ((I9 ap np mp tp vp o al nl ml tl ones)) Kst x) (hR : HR 2 400 ((V9 ap np mp tp vp o al nl ml tl ones)) (fun r => [newL (2 + 1) ((N9 ap np mp tp vp o al nl ml tl ones) r) ++ [(0, (false, .cols mp [.int .u8 tp, .int .u8 vp])), (1, (false, .cols ml [.int .u8 tl]))]]) Kret x) (h : (bif (decide ((↑nl : Int) > (60 : Int)))
 then (some (.inr (true)))
 else (bif (decide (al + nl ≤ ml ∧ nl ≤ 999999 ∧ (S.bytes nl fun (j : Nat) => tl (j + al)) = true))
 then (bif (decide
 (ap + np ≤ mp ∧
 (S.bytes np fun (j : Nat) => tp (j + ap)) = true ∧
 (S.bytes np fun (j : Nat) => vp (j + ap)) = true))
 then (bif (decide
 (0 +
 List.length
 (S.mkl (S.mdN np) fun (j : Nat) =>
 S.mdR np (fun (j : Nat) => tp (j + ap)) (fun (j : Nat) => vp (j + ap)) j) ≤
 List.length
 (S.mkl (S.mdN np) fun (j : Nat) =>
 S.mdR np (fun (j : Nat) => tp (j + ap)) (fun (j : Nat) => vp (j + ap)) j) ∧
 List.length
 (S.mkl (S.mdN np) fun (j : Nat) =>
 S.mdR np (fun (j : Nat) => tp (j + ap)) (fun (j : Nat) => vp (j + ap)) j) ≤
 1000000 ∧
 0 + List.length (S.mkl (S.mdN np) fun (j : Nat) => S.mdB o j) ≤
 List.length (S.mkl (S.mdN np) fun (j : Nat) => S.mdB o j) ∧
 List.length (S.mkl (S.mdN np) fun (j : Nat) => S.mdB o j) ≤ 1000000 ∧
 0 + List.length (S.mkl nl fun (j : Nat) => S.inp (tl (j + al))) ≤
 List.length (S.mkl nl fun (j : Nat) => S.inp (tl (j + al))) ∧
 List.length (S.mkl nl fun (j : Nat) => S.inp (tl (j + al))) ≤ 1000000))
 then (bif (Prod.fst
 (S.erS
 (List.length
 (S.mkl (S.mdN np) fun (j : Nat) =>
 S.mdR np (fun (j : Nat) => tp (j + ap)) (fun (j : Nat) => vp (j + ap)) j))
 (fun (j : Nat) =>
 Prod.fst
 (S.at'
 (S.mkl (S.mdN np) fun (j : Nat) =>
 S.mdR np (fun (j : Nat) => tp (j + ap)) (fun (j : Nat) => vp (j + ap)) j)
 j))
 (fun (j : Nat) =>
 Prod.fst
 (Prod.snd
 (S.at'
 (S.mkl (S.mdN np) fun (j : Nat) =>
 S.mdR np (fun (j : Nat) => tp (j + ap)) (fun (j : Nat) => vp (j + ap)) j)
 j)))
 (fun (j : Nat) =>
 Prod.snd
 (Prod.snd
 (S.at'
 (S.mkl (S.mdN np) fun (j : Nat) =>
 S.mdR np (fun (j : Nat) => tp (j + ap)) (fun (j : Nat) => vp (j + ap)) j)
 j)))
 (List.length (S.mkl (S.mdN np) fun (j : Nat) => S.mdB o j))
 (List.length (S.mkl nl fun (j : Nat) => S.inp (tl (j + al)))) fun (j : Nat) =>
 S.at' (S.mkl nl fun (j : Nat) => S.inp (tl (j + al))) j))
 then (bif (decide
 (0 +
 List.length
 (S.mkl (S.mdN np) fun (j : Nat) =>
 S.mdR np (fun (j : Nat) => tp (j + ap)) (fun (j : Nat) => vp (j + ap)) j) ≤
 List.length
 (S.mkl (S.mdN np) fun (j : Nat) =>
 S.mdR np (fun (j : Nat) => tp (j + ap)) (fun (j : Nat) => vp (j + ap)) j) ∧
 List.length
 (S.mkl (S.mdN np) fun (j : Nat) =>
 S.mdR np (fun (j : Nat) => tp (j + ap)) (fun (j : Nat) => vp (j + ap)) j) ≤
 1000000 ∧
 0 + List.length (S.mkl (S.mdN np) fun (j : Nat) => S.mdB ones j) ≤
 List.length (S.mkl (S.mdN np) fun (j : Nat) => S.mdB ones j) ∧
 List.length (S.mkl (S.mdN np) fun (j : Nat) => S.mdB ones j) ≤ 1000000 ∧
 0 + List.length (S.mkl nl fun (j : Nat) => S.inp (tl (j + al))) ≤
 List.length (S.mkl nl fun (j : Nat) => S.inp (tl (j + al))) ∧
 List.length (S.mkl nl fun (j : Nat) => S.inp (tl (j + al))) ≤ 1000000))
 then (bif (decide
 (0 +
 List.length
 (S.mkl (S.mdN np) fun (j : Nat) =>
 S.mdR np (fun (j : Nat) => tp (j + ap)) (fun (j : Nat) => vp (j + ap)) j) ≤
 List.length
 (S.mkl (S.mdN np) fun (j : Nat) =>
 S.mdR np (fun (j : Nat) => tp (j + ap)) (fun (j : Nat) => vp (j + ap)) j) ∧
 List.length
 (S.mkl (S.mdN np) fun (j : Nat) =>
 S.mdR np (fun (j : Nat) => tp (j + ap)) (fun (j : Nat) => vp (j + ap)) j) ≤
 1000000 ∧
 0 + List.length (S.mkl (S.mdN np) fun (j : Nat) => S.mdB (0 : Int) j) ≤
 List.length (S.mkl (S.mdN np) fun (j : Nat) => S.mdB (0 : Int) j) ∧
 List.length (S.mkl (S.mdN np) fun (j : Nat) => S.mdB (0 : Int) j) ≤ 1000000 ∧
 0 + List.length (S.mkl nl fun (j : Nat) => S.inp (tl (j + al))) ≤
 List.length (S.mkl nl fun (j : Nat) => S.inp (tl (j + al))) ∧
 List.length (S.mkl nl fun (j : Nat) => S.inp (tl (j + al))) ≤ 1000000))
 then (bif (decide
 (0 +
 List.length
 (S.mkl (S.mdN np) fun (j : Nat) =>
 S.mdR np (fun (j : Nat) => tp (j + ap)) (fun (j : Nat) => vp (j + ap)) j) ≤
 List.length
 (S.mkl (S.mdN np) fun (j : Nat) =>
 S.mdR np (fun (j : Nat) => tp (j + ap)) (fun (j : Nat) => vp (j + ap)) j) ∧
 List.length
 (S.mkl (S.mdN np) fun (j : Nat) =>
 S.mdR np (fun (j : Nat) => tp (j + ap)) (fun (j : Nat) => vp (j + ap)) j) ≤
 1000000 ∧
 0 + List.length (S.mkl (S.mdN np) fun (j : Nat) => S.mdB (4095 : Int) j) ≤
 List.length (S.mkl (S.mdN np) fun (j : Nat) => S.mdB (4095 : Int) j) ∧
 List.length (S.mkl (S.mdN np) fun (j : Nat) => S.mdB (4095 : Int) j) ≤ 1000000 ∧
 0 + List.length (S.mkl nl fun (j : Nat) => S.inp (tl (j + al))) ≤
 List.length (S.mkl nl fun (j : Nat) => S.inp (tl (j + al))) ∧
 List.length (S.mkl nl fun (j : Nat) => S.inp (tl (j + al))) ≤ 1000000))
 then (bif (Prod.snd
 (S.erS
 (List.length
 (S.mkl (S.mdN np) fun (j : Nat) =>
 S.mdR np (fun (j : Nat) => tp (j + ap)) (fun (j : Nat) => vp (j + ap)) j))
 (fun (j : Nat) =>
 Prod.fst
 (S.at'
 (S.mkl (S.mdN np) fun (j : Nat) =>
 S.mdR np (fun (j : Nat) => tp (j + ap)) (fun (j : Nat) => vp (j + ap)) j)
 j))
 (fun (j : Nat) =>
 Prod.fst
 (Prod.snd
 (S.at'
 (S.mkl (S.mdN np) fun (j : Nat) =>
 S.mdR np (fun (j : Nat) => tp (j + ap)) (fun (j : Nat) => vp (j + ap)) j)
 j)))
 (fun (j : Nat) =>
 Prod.snd
 (Prod.snd
 (S.at'
 (S.mkl (S.mdN np) fun (j : Nat) =>
 S.mdR np (fun (j : Nat) => tp (j + ap)) (fun (j : Nat) => vp (j + ap)) j)
 j)))
 (List.length (S.mkl (S.mdN np) fun (j : Nat) => S.mdB o j))
 (List.length (S.mkl nl fun (j : Nat) => S.inp (tl (j + al)))) fun (j : Nat) =>
 S.at' (S.mkl nl fun (j : Nat) => S.inp (tl (j + al))) j) !=
 (0 : Int))
 then (some (.inr (false)))
 else (bif (Prod.fst
 (S.histS
 (List.length
 (S.mkl (S.mdN np) fun (j : Nat) =>
 S.mdR np (fun (j : Nat) => tp (j + ap)) (fun (j : Nat) => vp (j + ap)) j))
 (fun (j : Nat) =>
 Prod.fst
 (S.at'
 (S.mkl (S.mdN np) fun (j : Nat) =>
 S.mdR np (fun (j : Nat) => tp (j + ap)) (fun (j : Nat) => vp (j + ap)) j)
 j))
 (fun (j : Nat) =>
 Prod.fst
 (Prod.snd
 (S.at'
 (S.mkl (S.mdN np) fun (j : Nat) =>
 S.mdR np (fun (j : Nat) => tp (j + ap)) (fun (j : Nat) => vp (j + ap)) j)
 j)))
 (fun (j : Nat) =>
 Prod.snd
 (Prod.snd
 (S.at'
 (S.mkl (S.mdN np) fun (j : Nat) =>
 S.mdR np (fun (j : Nat) => tp (j + ap)) (fun (j : Nat) => vp (j + ap)) j)
 j)))
 (List.length (S.mkl (S.mdN np) fun (j : Nat) => S.mdB o j))
 (fun (j : Nat) => S.at' (S.mkl (S.mdN np) fun (j : Nat) => S.mdB o j) j)
 (List.length (S.mkl nl fun (j : Nat) => S.inp (tl (j + al)))) fun (j : Nat) =>
 S.at' (S.mkl nl fun (j : Nat) => S.inp (tl (j + al))) j) !=
 (0 : Int))
 then (some (.inr (false)))
 else (bif (Prod.fst
 (S.histS
 (List.length
 (S.mkl (S.mdN np) fun (j : Nat) =>
 S.mdR np (fun (j : Nat) => tp (j + ap)) (fun (j : Nat) => vp (j + ap)) j))
 (fun (j : Nat) =>
 Prod.fst
 (S.at'
 (S.mkl (S.mdN np) fun (j : Nat) =>
 S.mdR np (fun (j : Nat) => tp (j + ap)) (fun (j : Nat) => vp (j + ap)) j)
 j))
 (fun (j : Nat) =>
 Prod.fst
 (Prod.snd
 (S.at'
 (S.mkl (S.mdN np) fun (j : Nat) =>
 S.mdR np (fun (j : Nat) => tp (j + ap)) (fun (j : Nat) => vp (j + ap)) j)
 j)))
 (fun (j : Nat) =>
 Prod.snd
 (Prod.snd
 (S.at'
 (S.mkl (S.mdN np) fun (j : Nat) =>
 S.mdR np (fun (j : Nat) => tp (j + ap)) (fun (j : Nat) => vp (j + ap)) j)
 j)))
 (List.length (S.mkl (S.mdN np) fun (j : Nat) => S.mdB ones j))
 (fun (j : Nat) => S.at' (S.mkl (S.mdN np) fun (j : Nat) => S.mdB ones j) j)
 (List.length (S.mkl nl fun (j : Nat) => S.inp (tl (j + al)))) fun (j : Nat) =>
 S.at' (S.mkl nl fun (j : Nat) => S.inp (tl (j + al))) j) !=
 (0 : Int))
 then (some (.inr (false)))
 else (bif (Prod.fst
 (S.histS
 (List.length
 (S.mkl (S.mdN np) fun (j : Nat) =>
 S.mdR np (fun (j : Nat) => tp (j + ap)) (fun (j : Nat) => vp (j + ap)) j))
 (fun (j : Nat) =>
 Prod.fst
 (S.at'
 (S.mkl (S.mdN np) fun (j : Nat) =>
 S.mdR np (fun (j : Nat) => tp (j + ap)) (fun (j : Nat) => vp (j + ap)) j)
 j))
 (fun (j : Nat) =>
 Prod.fst
 (Prod.snd
 (S.at'
 (S.mkl (S.mdN np) fun (j : Nat) =>
 S.mdR np (fun (j : Nat) => tp (j + ap)) (fun (j : Nat) => vp (j + ap)) j)
 j)))
 (fun (j : Nat) =>
 Prod.snd
 (Prod.snd
 (S.at'
 (S.mkl (S.mdN np) fun (j : Nat) =>
 S.mdR np (fun (j : Nat) => tp (j + ap)) (fun (j : Nat) => vp (j + ap)) j)
 j)))
 (List.length (S.mkl (S.mdN np) fun (j : Nat) => S.mdB (0 : Int) j))
 (fun (j : Nat) => S.at' (S.mkl (S.mdN np) fun (j : Nat) => S.mdB (0 : Int) j) j)
 (List.length (S.mkl nl fun (j : Nat) => S.inp (tl (j + al)))) fun (j : Nat) =>
 S.at' (S.mkl nl fun (j : Nat) => S.inp (tl (j + al))) j) !=
 (0 : Int))
 then (some (.inr (false)))
 else (bif (Prod.fst
 (S.histS
 (List.length
 (S.mkl (S.mdN np) fun (j : Nat) =>
 S.mdR np (fun (j : Nat) => tp (j + ap)) (fun (j : Nat) => vp (j + ap)) j))
 (fun (j : Nat) =>
 Prod.fst
 (S.at'
 (S.mkl (S.mdN np) fun (j : Nat) =>
 S.mdR np (fun (j : Nat) => tp (j + ap)) (fun (j : Nat) => vp (j + ap)) j)
 j))
 (fun (j : Nat) =>
 Prod.fst
 (Prod.snd
 (S.at'
 (S.mkl (S.mdN np) fun (j : Nat) =>
 S.mdR np (fun (j : Nat) => tp (j + ap)) (fun (j : Nat) => vp (j + ap)) j)
 j)))
 (fun (j : Nat) =>
 Prod.snd
 (Prod.snd
 (S.at'
 (S.mkl (S.mdN np) fun (j : Nat) =>
 S.mdR np (fun (j : Nat) => tp (j + ap)) (fun (j : Nat) => vp (j + ap)) j)
 j)))
 (List.length (S.mkl (S.mdN np) fun (j : Nat) => S.mdB (4095 : Int) j))
 (fun (j : Nat) => S.at' (S.mkl (S.mdN np) fun (j : Nat) => S.mdB (4095 : Int) j) j)
 (List.length (S.mkl nl fun (j : Nat) => S.inp (tl (j + al)))) fun (j : Nat) =>
 S.at' (S.mkl nl fun (j : Nat) => S.inp (tl (j + al))) j) !=
 (0 : Int))
 then (some (.inr (false)))
 else (bif (decide
 (0 +
 List.length
 (Prod.fst
 (Prod.snd
 (S.histS
 (List.length
 (S.mkl (S.mdN np) fun (j : Nat) =>
 S.mdR np (fun (j : Nat) => tp (j + ap)) (fun (j : Nat) => vp (j + ap)) j))
 (fun (j : Nat) =>
 Prod.fst
 (S.at'
 (S.mkl (S.mdN np) fun (j : Nat) =>
 S.mdR np (fun (j : Nat) => tp (j + ap)) (fun (j : Nat) => vp (j + ap)) j)
 j))
 (fun (j : Nat) =>
 Prod.fst
 (Prod.snd
 (S.at'
 (S.mkl (S.mdN np) fun (j : Nat) =>
 S.mdR np (fun (j : Nat) => tp (j + ap)) (fun (j : Nat) => vp (j + ap)) j)
 j)))
 (fun (j : Nat) =>
 Prod.snd
 (Prod.snd
 (S.at'
 (S.mkl (S.mdN np) fun (j : Nat) =>
 S.mdR np (fun (j : Nat) => tp (j + ap)) (fun (j : Nat) => vp (j + ap)) j)
 j)))
 (List.length (S.mkl (S.mdN np) fun (j : Nat) => S.mdB (0 : Int) j))
 (fun (j : Nat) => S.at' (S.mkl (S.mdN np) fun (j : Nat) => S.mdB (0 : Int) j) j)
 (List.length (S.mkl nl fun (j : Nat) => S.inp (tl (j + al)))) fun (j : Nat) =>
 S.at' (S.mkl nl fun (j : Nat) => S.inp (tl (j + al))) j))) ≤
 List.length
 (Prod.fst
 (Prod.snd
 (S.histS
 (List.length
 (S.mkl (S.mdN np) fun (j : Nat) =>
 S.mdR np (fun (j : Nat) => tp (j + ap)) (fun (j : Nat) => vp (j + ap)) j))
 (fun (j : Nat) =>
 Prod.fst
 (S.at'
 (S.mkl (S.mdN np) fun (j : Nat) =>
 S.mdR np (fun (j : Nat) => tp (j + ap)) (fun (j : Nat) => vp (j + ap)) j)
 j))
 (fun (j : Nat) =>
 Prod.fst
 (Prod.snd
 (S.at'
 (S.mkl (S.mdN np) fun (j : Nat) =>
 S.mdR np (fun (j : Nat) => tp (j + ap)) (fun (j : Nat) => vp (j + ap)) j)
 j)))
 (fun (j : Nat) =>
 Prod.snd
 (Prod.snd
 (S.at'
 (S.mkl (S.mdN np) fun (j : Nat) =>
 S.mdR np (fun (j : Nat) => tp (j + ap)) (fun (j : Nat) => vp (j + ap)) j)
 j)))
 (List.length (S.mkl (S.mdN np) fun (j : Nat) => S.mdB (0 : Int) j))
 (fun (j : Nat) => S.at' (S.mkl (S.mdN np) fun (j : Nat) => S.mdB (0 : Int) j) j)
 (List.length (S.mkl nl fun (j : Nat) => S.inp (tl (j + al)))) fun (j : Nat) =>
 S.at' (S.mkl nl fun (j : Nat) => S.inp (tl (j + al))) j))) ∧
 List.length
 (Prod.fst
 (Prod.snd
 (S.histS
 (List.length
 (S.mkl (S.mdN np) fun (j : Nat) =>
 S.mdR np (fun (j : Nat) => tp (j + ap)) (fun (j : Nat) => vp (j + ap)) j))
 (fun (j : Nat) =>
 Prod.fst
 (S.at'
 (S.mkl (S.mdN np) fun (j : Nat) =>
 S.mdR np (fun (j : Nat) => tp (j + ap)) (fun (j : Nat) => vp (j + ap)) j)
 j))
 (fun (j : Nat) =>
 Prod.fst
 (Prod.snd
 (S.at'
 (S.mkl (S.mdN np) fun (j : Nat) =>
 S.mdR np (fun (j : Nat) => tp (j + ap)) (fun (j : Nat) => vp (j + ap)) j)
 j)))
 (fun (j : Nat) =>
 Prod.snd
 (Prod.snd
 (S.at'
 (S.mkl (S.mdN np) fun (j : Nat) =>
 S.mdR np (fun (j : Nat) => tp (j + ap)) (fun (j : Nat) => vp (j + ap)) j)
 j)))
 (List.length (S.mkl (S.mdN np) fun (j : Nat) => S.mdB (0 : Int) j))
 (fun (j : Nat) => S.at' (S.mkl (S.mdN np) fun (j : Nat) => S.mdB (0 : Int) j) j)
 (List.length (S.mkl nl fun (j : Nat) => S.inp (tl (j + al)))) fun (j : Nat) =>
 S.at' (S.mkl nl fun (j : Nat) => S.inp (tl (j + al))) j))) ≤
 1000000 ∧
 0 +
 List.length
 (Prod.snd
 (Prod.snd
 (S.histS
 (List.length
 (S.mkl (S.mdN np) fun (j : Nat) =>
 S.mdR np (fun (j : Nat) => tp (j + ap)) (fun (j : Nat) => vp (j + ap)) j))
 (fun (j : Nat) =>
 Prod.fst
 (S.at'
 (S.mkl (S.mdN np) fun (j : Nat) =>
 S.mdR np (fun (j : Nat) => tp (j + ap)) (fun (j : Nat) => vp (j + ap)) j)
 j))
 (fun (j : Nat) =>
 Prod.fst
 (Prod.snd
 (S.at'
 (S.mkl (S.mdN np) fun (j : Nat) =>
 S.mdR np (fun (j : Nat) => tp (j + ap)) (fun (j : Nat) => vp (j + ap)) j)
 j)))
 (fun (j : Nat) =>
 Prod.snd
 (Prod.snd
 (S.at'
 (S.mkl (S.mdN np) fun (j : Nat) =>
 S.mdR np (fun (j : Nat) => tp (j + ap)) (fun (j : Nat) => vp (j + ap)) j)
 j)))
 (List.length (S.mkl (S.mdN np) fun (j : Nat) => S.mdB (0 : Int) j))
 (fun (j : Nat) =>
 S.at' (S.mkl (S.mdN np) fun (j : Nat) => S.mdB (0 : Int) j) j)
 (List.length (S.mkl nl fun (j : Nat) => S.inp (tl (j + al)))) fun (j : Nat) =>
 S.at' (S.mkl nl fun (j : Nat) => S.inp (tl (j + al))) j))) ≤
 List.length
 (Prod.snd
 (Prod.snd
 (S.histS
 (List.length
 (S.mkl (S.mdN np) fun (j : Nat) =>
 S.mdR np (fun (j : Nat) => tp (j + ap)) (fun (j : Nat) => vp (j + ap)) j))
 (fun (j : Nat) =>
 Prod.fst
 (S.at'
 (S.mkl (S.mdN np) fun (j : Nat) =>
 S.mdR np (fun (j : Nat) => tp (j + ap)) (fun (j : Nat) => vp (j + ap)) j)
 j))
 (fun (j : Nat) =>
 Prod.fst
 (Prod.snd
 (S.at'
 (S.mkl (S.mdN np) fun (j : Nat) =>
 S.mdR np (fun (j : Nat) => tp (j + ap)) (fun (j : Nat) => vp (j + ap)) j)
 j)))
 (fun (j : Nat) =>
 Prod.snd
 (Prod.snd
 (S.at'
 (S.mkl (S.mdN np) fun (j : Nat) =>
 S.mdR np (fun (j : Nat) => tp (j + ap)) (fun (j : Nat) => vp (j + ap)) j)
 j)))
 (List.length (S.mkl (S.mdN np) fun (j : Nat) => S.mdB (0 : Int) j))
 (fun (j : Nat) =>
 S.at' (S.mkl (S.mdN np) fun (j : Nat) => S.mdB (0 : Int) j) j)
 (List.length (S.mkl nl fun (j : Nat) => S.inp (tl (j + al)))) fun (j : Nat) =>
 S.at' (S.mkl nl fun (j : Nat) => S.inp (tl (j + al))) j))) ∧
 List.length
 (Prod.snd
 (Prod.snd
 (S.histS
 (List.length
 (S.mkl (S.mdN np) fun (j : Nat) =>
 S.mdR np (fun (j : Nat) => tp (j + ap)) (fun (j : Nat) => vp (j + ap)) j))
 (fun (j : Nat) =>
 Prod.fst
 (S.at'
 (S.mkl (S.mdN np) fun (j : Nat) =>
 S.mdR np (fun (j : Nat) => tp (j + ap)) (fun (j : Nat) => vp (j + ap)) j)
 j))
 (fun (j : Nat) =>
 Prod.fst
 (Prod.snd
 (S.at'
 (S.mkl (S.mdN np) fun (j : Nat) =>
 S.mdR np (fun (j : Nat) => tp (j + ap)) (fun (j : Nat) => vp (j + ap)) j)
 j)))
 (fun (j : Nat) =>
 Prod.snd
 (Prod.snd
 (S.at'
 (S.mkl (S.mdN np) fun (j : Nat) =>
 S.mdR np (fun (j : Nat) => tp (j + ap)) (fun (j : Nat) => vp (j + ap)) j)
 j)))
 (List.length (S.mkl (S.mdN np) fun (j : Nat) => S.mdB (0 : Int) j))
 (fun (j : Nat) =>
 S.at' (S.mkl (S.mdN np) fun (j : Nat) => S.mdB (0 : Int) j) j)
 (List.length (S.mkl nl fun (j : Nat) => S.inp (tl (j + al)))) fun (j : Nat) =>
 S.at' (S.mkl nl fun (j : Nat) => S.inp (tl (j + al))) j))) ≤
 1000000 ∧
 0 +
 List.length
 (Prod.fst
 (Prod.snd
 (S.histS
 (List.length
 (S.mkl (S.mdN np) fun (j : Nat) =>
 S.mdR np (fun (j : Nat) => tp (j + ap)) (fun (j : Nat) => vp (j + ap)) j))
 (fun (j : Nat) =>
 Prod.fst
 (S.at'
 (S.mkl (S.mdN np) fun (j : Nat) =>
 S.mdR np (fun (j : Nat) => tp (j + ap)) (fun (j : Nat) => vp (j + ap)) j)
 j))
 (fun (j : Nat) =>
 Prod.fst
 (Prod.snd
 (S.at'
 (S.mkl (S.mdN np) fun (j : Nat) =>
 S.mdR np (fun (j : Nat) => tp (j + ap)) (fun (j : Nat) => vp (j + ap)) j)
 j)))
 (fun (j : Nat) =>
 Prod.snd
 (Prod.snd
 (S.at'
 (S.mkl (S.mdN np) fun (j : Nat) =>
 S.mdR np (fun (j : Nat) => tp (j + ap)) (fun (j : Nat) => vp (j + ap)) j)
 j)))
 (List.length (S.mkl (S.mdN np) fun (j : Nat) => S.mdB (4095 : Int) j))
 (fun (j : Nat) =>
 S.at' (S.mkl (S.mdN np) fun (j : Nat) => S.mdB (4095 : Int) j) j)
 (List.length (S.mkl nl fun (j : Nat) => S.inp (tl (j + al)))) fun (j : Nat) =>
 S.at' (S.mkl nl fun (j : Nat) => S.inp (tl (j + al))) j))) ≤
 List.length
 (Prod.fst
 (Prod.snd
 (S.histS
 (List.length
 (S.mkl (S.mdN np) fun (j : Nat) =>
 S.mdR np (fun (j : Nat) => tp (j + ap)) (fun (j : Nat) => vp (j + ap)) j))
 (fun (j : Nat) =>
 Prod.fst
 (S.at'
 (S.mkl (S.mdN np) fun (j : Nat) =>
 S.mdR np (fun (j : Nat) => tp (j + ap)) (fun (j : Nat) => vp (j + ap)) j)
 j))
 (fun (j : Nat) =>
 Prod.fst
 (Prod.snd
 (S.at'
 (S.mkl (S.mdN np) fun (j : Nat) =>
 S.mdR np (fun (j : Nat) => tp (j + ap)) (fun (j : Nat) => vp (j + ap)) j)
 j)))
 (fun (j : Nat) =>
 Prod.snd
 (Prod.snd
 (S.at'
 (S.mkl (S.mdN np) fun (j : Nat) =>
 S.mdR np (fun (j : Nat) => tp (j + ap)) (fun (j : Nat) => vp (j + ap)) j)
 j)))
 (List.length (S.mkl (S.mdN np) fun (j : Nat) => S.mdB (4095 : Int) j))
 (fun (j : Nat) =>
 S.at' (S.mkl (S.mdN np) fun (j : Nat) => S.mdB (4095 : Int) j) j)
 (List.length (S.mkl nl fun (j : Nat) => S.inp (tl (j + al)))) fun (j : Nat) =>
 S.at' (S.mkl nl fun (j : Nat) => S.inp (tl (j + al))) j))) ∧
 List.length
 (Prod.fst
 (Prod.snd
 (S.histS
 (List.length
 (S.mkl (S.mdN np) fun (j : Nat) =>
 S.mdR np (fun (j : Nat) => tp (j + ap)) (fun (j : Nat) => vp (j + ap)) j))
 (fun (j : Nat) =>
 Prod.fst
 (S.at'
 (S.mkl (S.mdN np) fun (j : Nat) =>
 S.mdR np (fun (j : Nat) => tp (j + ap)) (fun (j : Nat) => vp (j + ap)) j)
 j))
 (fun (j : Nat) =>
 Prod.fst
 (Prod.snd
 (S.at'
 (S.mkl (S.mdN np) fun (j : Nat) =>
 S.mdR np (fun (j : Nat) => tp (j + ap)) (fun (j : Nat) => vp (j + ap)) j)
 j)))
 (fun (j : Nat) =>
 Prod.snd
 (Prod.snd
 (S.at'
 (S.mkl (S.mdN np) fun (j : Nat) =>
 S.mdR np (fun (j : Nat) => tp (j + ap)) (fun (j : Nat) => vp (j + ap)) j)
 j)))
 (List.length (S.mkl (S.mdN np) fun (j : Nat) => S.mdB (4095 : Int) j))
 (fun (j : Nat) =>
 S.at' (S.mkl (S.mdN np) fun (j : Nat) => S.mdB (4095 : Int) j) j)
 (List.length (S.mkl nl fun (j : Nat) => S.inp (tl (j + al)))) fun (j : Nat) =>
 S.at' (S.mkl nl fun (j : Nat) => S.inp (tl (j + al))) j))) ≤
 1000000 ∧
 0 +
 List.length
 (Prod.snd
 (Prod.snd
 (S.histS
 (List.length
 (S.mkl (S.mdN np) fun (j : Nat) =>
 S.mdR np (fun (j : Nat) => tp (j + ap)) (fun (j : Nat) => vp (j + ap)) j))
 (fun (j : Nat) =>
 Prod.fst
 (S.at'
 (S.mkl (S.mdN np) fun (j : Nat) =>
 S.mdR np (fun (j : Nat) => tp (j + ap)) (fun (j : Nat) => vp (j + ap)) j)
 j))
 (fun (j : Nat) =>
 Prod.fst
 (Prod.snd
 (S.at'
 (S.mkl (S.mdN np) fun (j : Nat) =>
 S.mdR np (fun (j : Nat) => tp (j + ap)) (fun (j : Nat) => vp (j + ap)) j)
 j)))
 (fun (j : Nat) =>
 Prod.snd
 (Prod.snd
 (S.at'
 (S.mkl (S.mdN np) fun (j : Nat) =>
 S.mdR np (fun (j : Nat) => tp (j + ap)) (fun (j : Nat) => vp (j + ap)) j)
 j)))
 (List.length (S.mkl (S.mdN np) fun (j : Nat) => S.mdB (4095 : Int) j))
 (fun (j : Nat) =>
 S.at' (S.mkl (S.mdN np) fun (j : Nat) => S.mdB (4095 : Int) j) j)
 (List.length (S.mkl nl fun (j : Nat) => S.inp (tl (j + al)))) fun (j : Nat) =>
 S.at' (S.mkl nl fun (j : Nat) => S.inp (tl (j + al))) j))) ≤
 List.length
 (Prod.snd
 (Prod.snd
 (S.histS
 (List.length
 (S.mkl (S.mdN np) fun (j : Nat) =>
 S.mdR np (fun (j : Nat) => tp (j + ap)) (fun (j : Nat) => vp (j + ap)) j))
 (fun (j : Nat) =>
 Prod.fst
 (S.at'
 (S.mkl (S.mdN np) fun (j : Nat) =>
 S.mdR np (fun (j : Nat) => tp (j + ap)) (fun (j : Nat) => vp (j + ap)) j)
 j))
 (fun (j : Nat) =>
 Prod.fst
 (Prod.snd
 (S.at'
 (S.mkl (S.mdN np) fun (j : Nat) =>
 S.mdR np (fun (j : Nat) => tp (j + ap)) (fun (j : Nat) => vp (j + ap)) j)
 j)))
 (fun (j : Nat) =>
 Prod.snd
 (Prod.snd
 (S.at'
 (S.mkl (S.mdN np) fun (j : Nat) =>
 S.mdR np (fun (j : Nat) => tp (j + ap)) (fun (j : Nat) => vp (j + ap)) j)
 j)))
 (List.length (S.mkl (S.mdN np) fun (j : Nat) => S.mdB (4095 : Int) j))
 (fun (j : Nat) =>
 S.at' (S.mkl (S.mdN np) fun (j : Nat) => S.mdB (4095 : Int) j) j)
 (List.length (S.mkl nl fun (j : Nat) => S.inp (tl (j + al)))) fun (j : Nat) =>
 S.at' (S.mkl nl fun (j : Nat) => S.inp (tl (j + al))) j))) ∧
 List.length
 (Prod.snd
 (Prod.snd
 (S.histS
 (List.length
 (S.mkl (S.mdN np) fun (j : Nat) =>
 S.mdR np (fun (j : Nat) => tp (j + ap)) (fun (j : Nat) => vp (j + ap)) j))
 (fun (j : Nat) =>
 Prod.fst
 (S.at'
 (S.mkl (S.mdN np) fun (j : Nat) =>
 S.mdR np (fun (j : Nat) => tp (j + ap)) (fun (j : Nat) => vp (j + ap)) j)
 j))
 (fun (j : Nat) =>
 Prod.fst
 (Prod.snd
 (S.at'
 (S.mkl (S.mdN np) fun (j : Nat) =>
 S.mdR np (fun (j : Nat) => tp (j + ap)) (fun (j : Nat) => vp (j + ap)) j)
 j)))
 (fun (j : Nat) =>
 Prod.snd
 (Prod.snd
 (S.at'
 (S.mkl (S.mdN np) fun (j : Nat) =>
 S.mdR np (fun (j : Nat) => tp (j + ap)) (fun (j : Nat) => vp (j + ap)) j)
 j)))
 (List.length (S.mkl (S.mdN np) fun (j : Nat) => S.mdB (4095 : Int) j))
 (fun (j : Nat) =>
 S.at' (S.mkl (S.mdN np) fun (j : Nat) => S.mdB (4095 : Int) j) j)
 (List.length (S.mkl nl fun (j : Nat) => S.inp (tl (j + al)))) fun (j : Nat) =>
 S.at' (S.mkl nl fun (j : Nat) => S.inp (tl (j + al))) j))) ≤
 1000000))
 then (bif (decide
 ((S.mkl
 (List.length
 (Prod.fst
 (Prod.snd
 (S.histS
 (List.length
 (S.mkl (S.mdN np) fun (j : Nat) =>
 S.mdR np (fun (j : Nat) => tp (j + ap)) (fun (j : Nat) => vp (j + ap)) j))
 (fun (j : Nat) =>
 Prod.fst
 (S.at'
 (S.mkl (S.mdN np) fun (j : Nat) =>
 S.mdR np (fun (j : Nat) => tp (j + ap)) (fun (j : Nat) => vp (j + ap)) j)
 j))
 (fun (j : Nat) =>
 Prod.fst
 (Prod.snd
 (S.at'
 (S.mkl (S.mdN np) fun (j : Nat) =>
 S.mdR np (fun (j : Nat) => tp (j + ap)) (fun (j : Nat) => vp (j + ap)) j)
 j)))
 (fun (j : Nat) =>
 Prod.snd
 (Prod.snd
 (S.at'
 (S.mkl (S.mdN np) fun (j : Nat) =>
 S.mdR np (fun (j : Nat) => tp (j + ap)) (fun (j : Nat) => vp (j + ap)) j)
 j)))
 (List.length (S.mkl (S.mdN np) fun (j : Nat) => S.mdB (0 : Int) j))
 (fun (j : Nat) => S.at' (S.mkl (S.mdN np) fun (j : Nat) => S.mdB (0 : Int) j) j)
 (List.length (S.mkl nl fun (j : Nat) => S.inp (tl (j + al)))) fun (j : Nat) =>
 S.at' (S.mkl nl fun (j : Nat) => S.inp (tl (j + al))) j))))
 fun (j : Nat) =>
 (Prod.fst
 (S.at'
 (Prod.fst
 (Prod.snd
 (S.histS
 (List.length
 (S.mkl (S.mdN np) fun (j : Nat) =>
 S.mdR np (fun (j : Nat) => tp (j + ap)) (fun (j : Nat) => vp (j + ap)) j))
 (fun (j : Nat) =>
 Prod.fst
 (S.at'
 (S.mkl (S.mdN np) fun (j : Nat) =>
 S.mdR np (fun (j : Nat) => tp (j + ap)) (fun (j : Nat) => vp (j + ap)) j)
 j))
 (fun (j : Nat) =>
 Prod.fst
 (Prod.snd
 (S.at'
 (S.mkl (S.mdN np) fun (j : Nat) =>
 S.mdR np (fun (j : Nat) => tp (j + ap)) (fun (j : Nat) => vp (j + ap)) j)
 j)))
 (fun (j : Nat) =>
 Prod.snd
 (Prod.snd
 (S.at'
 (S.mkl (S.mdN np) fun (j : Nat) =>
 S.mdR np (fun (j : Nat) => tp (j + ap)) (fun (j : Nat) => vp (j + ap)) j)
 j)))
 (List.length (S.mkl (S.mdN np) fun (j : Nat) => S.mdB (0 : Int) j))
 (fun (j : Nat) =>
 S.at' (S.mkl (S.mdN np) fun (j : Nat) => S.mdB (0 : Int) j) j)
 (List.length (S.mkl nl fun (j : Nat) => S.inp (tl (j + al)))) fun (j : Nat) =>
 S.at' (S.mkl nl fun (j : Nat) => S.inp (tl (j + al))) j)))
 j),
 Prod.fst
 (Prod.snd
 (S.at'
 (Prod.fst
 (Prod.snd
 (S.histS
 (List.length
 (S.mkl (S.mdN np) fun (j : Nat) =>
 S.mdR np (fun (j : Nat) => tp (j + ap)) (fun (j : Nat) => vp (j + ap)) j))
 (fun (j : Nat) =>
 Prod.fst
 (S.at'
 (S.mkl (S.mdN np) fun (j : Nat) =>
 S.mdR np (fun (j : Nat) => tp (j + ap)) (fun (j : Nat) => vp (j + ap)) j)
 j))
 (fun (j : Nat) =>
 Prod.fst
 (Prod.snd
 (S.at'
 (S.mkl (S.mdN np) fun (j : Nat) =>
 S.mdR np (fun (j : Nat) => tp (j + ap)) (fun (j : Nat) => vp (j + ap)) j)
 j)))
 (fun (j : Nat) =>
 Prod.snd
 (Prod.snd
 (S.at'
 (S.mkl (S.mdN np) fun (j : Nat) =>
 S.mdR np (fun (j : Nat) => tp (j + ap)) (fun (j : Nat) => vp (j + ap)) j)
 j)))
 (List.length (S.mkl (S.mdN np) fun (j : Nat) => S.mdB (0 : Int) j))
 (fun (j : Nat) =>
 S.at' (S.mkl (S.mdN np) fun (j : Nat) => S.mdB (0 : Int) j) j)
 (List.length (S.mkl nl fun (j : Nat) => S.inp (tl (j + al)))) fun (j : Nat) =>
 S.at' (S.mkl nl fun (j : Nat) => S.inp (tl (j + al))) j)))
 j)),
 Prod.snd
 (Prod.snd
 (S.at'
 (Prod.fst
 (Prod.snd
 (S.histS
 (List.length
 (S.mkl (S.mdN np) fun (j : Nat) =>
 S.mdR np (fun (j : Nat) => tp (j + ap)) (fun (j : Nat) => vp (j + ap)) j))
 (fun (j : Nat) =>
 Prod.fst
 (S.at'
 (S.mkl (S.mdN np) fun (j : Nat) =>
 S.mdR np (fun (j : Nat) => tp (j + ap)) (fun (j : Nat) => vp (j + ap)) j)
 j))
 (fun (j : Nat) =>
 Prod.fst
 (Prod.snd
 (S.at'
 (S.mkl (S.mdN np) fun (j : Nat) =>
 S.mdR np (fun (j : Nat) => tp (j + ap)) (fun (j : Nat) => vp (j + ap)) j)
 j)))
 (fun (j : Nat) =>
 Prod.snd
 (Prod.snd
 (S.at'
 (S.mkl (S.mdN np) fun (j : Nat) =>
 S.mdR np (fun (j : Nat) => tp (j + ap)) (fun (j : Nat) => vp (j + ap)) j)
 j)))
 (List.length (S.mkl (S.mdN np) fun (j : Nat) => S.mdB (0 : Int) j))
 (fun (j : Nat) =>
 S.at' (S.mkl (S.mdN np) fun (j : Nat) => S.mdB (0 : Int) j) j)
 (List.length (S.mkl nl fun (j : Nat) => S.inp (tl (j + al)))) fun (j : Nat) =>
 S.at' (S.mkl nl fun (j : Nat) => S.inp (tl (j + al))) j)))
 j)))) =
 S.mkl
 (List.length
 (Prod.fst
 (Prod.snd
 (S.histS
 (List.length
 (S.mkl (S.mdN np) fun (j : Nat) =>
 S.mdR np (fun (j : Nat) => tp (j + ap)) (fun (j : Nat) => vp (j + ap)) j))
 (fun (j : Nat) =>
 Prod.fst
 (S.at'
 (S.mkl (S.mdN np) fun (j : Nat) =>
 S.mdR np (fun (j : Nat) => tp (j + ap)) (fun (j : Nat) => vp (j + ap)) j)
 j))
 (fun (j : Nat) =>
 Prod.fst
 (Prod.snd
 (S.at'
 (S.mkl (S.mdN np) fun (j : Nat) =>
 S.mdR np (fun (j : Nat) => tp (j + ap)) (fun (j : Nat) => vp (j + ap)) j)
 j)))
 (fun (j : Nat) =>
 Prod.snd
 (Prod.snd
 (S.at'
 (S.mkl (S.mdN np) fun (j : Nat) =>
 S.mdR np (fun (j : Nat) => tp (j + ap)) (fun (j : Nat) => vp (j + ap)) j)
 j)))
 (List.length (S.mkl (S.mdN np) fun (j : Nat) => S.mdB (4095 : Int) j))
 (fun (j : Nat) =>
 S.at' (S.mkl (S.mdN np) fun (j : Nat) => S.mdB (4095 : Int) j) j)
 (List.length (S.mkl nl fun (j : Nat) => S.inp (tl (j + al)))) fun (j : Nat) =>
 S.at' (S.mkl nl fun (j : Nat) => S.inp (tl (j + al))) j))))
 fun (j : Nat) =>
 (Prod.fst
 (S.at'
 (Prod.fst
 (Prod.snd
 (S.histS
 (List.length
 (S.mkl (S.mdN np) fun (j : Nat) =>
 S.mdR np (fun (j : Nat) => tp (j + ap)) (fun (j : Nat) => vp (j + ap)) j))
 (fun (j : Nat) =>
 Prod.fst
 (S.at'
 (S.mkl (S.mdN np) fun (j : Nat) =>
 S.mdR np (fun (j : Nat) => tp (j + ap)) (fun (j : Nat) => vp (j + ap)) j)
 j))
 (fun (j : Nat) =>
 Prod.fst
 (Prod.snd
 (S.at'
 (S.mkl (S.mdN np) fun (j : Nat) =>
 S.mdR np (fun (j : Nat) => tp (j + ap)) (fun (j : Nat) => vp (j + ap)) j)
 j)))
 (fun (j : Nat) =>
 Prod.snd
 (Prod.snd
 (S.at'
 (S.mkl (S.mdN np) fun (j : Nat) =>
 S.mdR np (fun (j : Nat) => tp (j + ap)) (fun (j : Nat) => vp (j + ap)) j)
 j)))
 (List.length (S.mkl (S.mdN np) fun (j : Nat) => S.mdB (4095 : Int) j))
 (fun (j : Nat) =>
 S.at' (S.mkl (S.mdN np) fun (j : Nat) => S.mdB (4095 : Int) j) j)
 (List.length (S.mkl nl fun (j : Nat) => S.inp (tl (j + al)))) fun (j : Nat) =>
 S.at' (S.mkl nl fun (j : Nat) => S.inp (tl (j + al))) j)))
 j),
 Prod.fst
 (Prod.snd
 (S.at'
 (Prod.fst
 (Prod.snd
 (S.histS
 (List.length
 (S.mkl (S.mdN np) fun (j : Nat) =>
 S.mdR np (fun (j : Nat) => tp (j + ap)) (fun (j : Nat) => vp (j + ap)) j))
 (fun (j : Nat) =>
 Prod.fst
 (S.at'
 (S.mkl (S.mdN np) fun (j : Nat) =>
 S.mdR np (fun (j : Nat) => tp (j + ap)) (fun (j : Nat) => vp (j + ap)) j)
 j))
 (fun (j : Nat) =>
 Prod.fst
 (Prod.snd
 (S.at'
 (S.mkl (S.mdN np) fun (j : Nat) =>
 S.mdR np (fun (j : Nat) => tp (j + ap)) (fun (j : Nat) => vp (j + ap)) j)
 j)))
 (fun (j : Nat) =>
 Prod.snd
 (Prod.snd
 (S.at'
 (S.mkl (S.mdN np) fun (j : Nat) =>
 S.mdR np (fun (j : Nat) => tp (j + ap)) (fun (j : Nat) => vp (j + ap)) j)
 j)))
 (List.length (S.mkl (S.mdN np) fun (j : Nat) => S.mdB (4095 : Int) j))
 (fun (j : Nat) =>
 S.at' (S.mkl (S.mdN np) fun (j : Nat) => S.mdB (4095 : Int) j) j)
 (List.length (S.mkl nl fun (j : Nat) => S.inp (tl (j + al)))) fun (j : Nat) =>
 S.at' (S.mkl nl fun (j : Nat) => S.inp (tl (j + al))) j)))
 j)),
 Prod.snd
 (Prod.snd
 (S.at'
 (Prod.fst
 (Prod.snd
 (S.histS
 (List.length
 (S.mkl (S.mdN np) fun (j : Nat) =>
 S.mdR np (fun (j : Nat) => tp (j + ap)) (fun (j : Nat) => vp (j + ap)) j))
 (fun (j : Nat) =>
 Prod.fst
 (S.at'
 (S.mkl (S.mdN np) fun (j : Nat) =>
 S.mdR np (fun (j : Nat) => tp (j + ap)) (fun (j : Nat) => vp (j + ap)) j)
 j))
 (fun (j : Nat) =>
 Prod.fst
 (Prod.snd
 (S.at'
 (S.mkl (S.mdN np) fun (j : Nat) =>
 S.mdR np (fun (j : Nat) => tp (j + ap)) (fun (j : Nat) => vp (j + ap)) j)
 j)))
 (fun (j : Nat) =>
 Prod.snd
 (Prod.snd
 (S.at'
 (S.mkl (S.mdN np) fun (j : Nat) =>
 S.mdR np (fun (j : Nat) => tp (j + ap)) (fun (j : Nat) => vp (j + ap)) j)
 j)))
 (List.length (S.mkl (S.mdN np) fun (j : Nat) => S.mdB (4095 : Int) j))
 (fun (j : Nat) =>
 S.at' (S.mkl (S.mdN np) fun (j : Nat) => S.mdB (4095 : Int) j) j)
 (List.length (S.mkl nl fun (j : Nat) => S.inp (tl (j + al)))) fun (j : Nat) =>
 S.at' (S.mkl nl fun (j : Nat) => S.inp (tl (j + al))) j)))
 j)))) &&
 decide
 ((S.mkl
 (List.length
 (Prod.snd
 (Prod.snd
 (S.histS
 (List.length
 (S.mkl (S.mdN np) fun (j : Nat) =>
 S.mdR np (fun (j : Nat) => tp (j + ap)) (fun (j : Nat) => vp (j + ap)) j))
 (fun (j : Nat) =>
 Prod.fst
 (S.at'
 (S.mkl (S.mdN np) fun (j : Nat) =>
 S.mdR np (fun (j : Nat) => tp (j + ap)) (fun (j : Nat) => vp (j + ap)) j)
 j))
 (fun (j : Nat) =>
 Prod.fst
 (Prod.snd
 (S.at'
 (S.mkl (S.mdN np) fun (j : Nat) =>
 S.mdR np (fun (j : Nat) => tp (j + ap)) (fun (j : Nat) => vp (j + ap)) j)
 j)))
 (fun (j : Nat) =>
 Prod.snd
 (Prod.snd
 (S.at'
 (S.mkl (S.mdN np) fun (j : Nat) =>
 S.mdR np (fun (j : Nat) => tp (j + ap)) (fun (j : Nat) => vp (j + ap)) j)
 j)))
 (List.length (S.mkl (S.mdN np) fun (j : Nat) => S.mdB (0 : Int) j))
 (fun (j : Nat) => S.at' (S.mkl (S.mdN np) fun (j : Nat) => S.mdB (0 : Int) j) j)
 (List.length (S.mkl nl fun (j : Nat) => S.inp (tl (j + al)))) fun (j : Nat) =>
 S.at' (S.mkl nl fun (j : Nat) => S.inp (tl (j + al))) j))))
 fun (j : Nat) =>
 S.at'
 (Prod.snd
 (Prod.snd
 (S.histS
 (List.length
 (S.mkl (S.mdN np) fun (j : Nat) =>
 S.mdR np (fun (j : Nat) => tp (j + ap)) (fun (j : Nat) => vp (j + ap)) j))
 (fun (j : Nat) =>
 Prod.fst
 (S.at'
 (S.mkl (S.mdN np) fun (j : Nat) =>
 S.mdR np (fun (j : Nat) => tp (j + ap)) (fun (j : Nat) => vp (j + ap)) j)
 j))
 (fun (j : Nat) =>
 Prod.fst
 (Prod.snd
 (S.at'
 (S.mkl (S.mdN np) fun (j : Nat) =>
 S.mdR np (fun (j : Nat) => tp (j + ap)) (fun (j : Nat) => vp (j + ap)) j)
 j)))
 (fun (j : Nat) =>
 Prod.snd
 (Prod.snd
 (S.at'
 (S.mkl (S.mdN np) fun (j : Nat) =>
 S.mdR np (fun (j : Nat) => tp (j + ap)) (fun (j : Nat) => vp (j + ap)) j)
 j)))
 (List.length (S.mkl (S.mdN np) fun (j : Nat) => S.mdB (0 : Int) j))
 (fun (j : Nat) => S.at' (S.mkl (S.mdN np) fun (j : Nat) => S.mdB (0 : Int) j) j)
 (List.length (S.mkl nl fun (j : Nat) => S.inp (tl (j + al)))) fun (j : Nat) =>
 S.at' (S.mkl nl fun (j : Nat) => S.inp (tl (j + al))) j)))
 j) =
 S.mkl
 (List.length
 (Prod.snd
 (Prod.snd
 (S.histS
 (List.length
 (S.mkl (S.mdN np) fun (j : Nat) =>
 S.mdR np (fun (j : Nat) => tp (j + ap)) (fun (j : Nat) => vp (j + ap)) j))
 (fun (j : Nat) =>
 Prod.fst
 (S.at'
 (S.mkl (S.mdN np) fun (j : Nat) =>
 S.mdR np (fun (j : Nat) => tp (j + ap)) (fun (j : Nat) => vp (j + ap)) j)
 j))
 (fun (j : Nat) =>
 Prod.fst
 (Prod.snd
 (S.at'
 (S.mkl (S.mdN np) fun (j : Nat) =>
 S.mdR np (fun (j : Nat) => tp (j + ap)) (fun (j : Nat) => vp (j + ap)) j)
 j)))
 (fun (j : Nat) =>
 Prod.snd
 (Prod.snd
 (S.at'
 (S.mkl (S.mdN np) fun (j : Nat) =>
 S.mdR np (fun (j : Nat) => tp (j + ap)) (fun (j : Nat) => vp (j + ap)) j)
 j)))
 (List.length (S.mkl (S.mdN np) fun (j : Nat) => S.mdB (4095 : Int) j))
 (fun (j : Nat) =>
 S.at' (S.mkl (S.mdN np) fun (j : Nat) => S.mdB (4095 : Int) j) j)
 (List.length (S.mkl nl fun (j : Nat) => S.inp (tl (j + al)))) fun (j : Nat) =>
 S.at' (S.mkl nl fun (j : Nat) => S.inp (tl (j + al))) j))))
 fun (j : Nat) =>
 S.at'
 (Prod.snd
 (Prod.snd
 (S.histS
 (List.length
 (S.mkl (S.mdN np) fun (j : Nat) =>
 S.mdR np (fun (j : Nat) => tp (j + ap)) (fun (j : Nat) => vp (j + ap)) j))
 (fun (j : Nat) =>
 Prod.fst
 (S.at'
 (S.mkl (S.mdN np) fun (j : Nat) =>
 S.mdR np (fun (j : Nat) => tp (j + ap)) (fun (j : Nat) => vp (j + ap)) j)
 j))
 (fun (j : Nat) =>
 Prod.fst
 (Prod.snd
 (S.at'
 (S.mkl (S.mdN np) fun (j : Nat) =>
 S.mdR np (fun (j : Nat) => tp (j + ap)) (fun (j : Nat) => vp (j + ap)) j)
 j)))
 (fun (j : Nat) =>
 Prod.snd
 (Prod.snd
 (S.at'
 (S.mkl (S.mdN np) fun (j : Nat) =>
 S.mdR np (fun (j : Nat) => tp (j + ap)) (fun (j : Nat) => vp (j + ap)) j)
 j)))
 (List.length (S.mkl (S.mdN np) fun (j : Nat) => S.mdB (4095 : Int) j))
 (fun (j : Nat) =>
 S.at' (S.mkl (S.mdN np) fun (j : Nat) => S.mdB (4095 : Int) j) j)
 (List.length (S.mkl nl fun (j : Nat) => S.inp (tl (j + al)))) fun (j : Nat) =>
 S.at' (S.mkl nl fun (j : Nat) => S.inp (tl (j + al))) j)))
 j))
 then (bif (decide
 (0 +
 List.length
 (Prod.fst
 (Prod.snd
 (S.histS
 (List.length
 (S.mkl (S.mdN np) fun (j : Nat) =>
 S.mdR np (fun (j : Nat) => tp (j + ap)) (fun (j : Nat) => vp (j + ap)) j))
 (fun (j : Nat) =>
 Prod.fst
 (S.at'
 (S.mkl (S.mdN np) fun (j : Nat) =>
 S.mdR np (fun (j : Nat) => tp (j + ap)) (fun (j : Nat) => vp (j + ap)) j)
 j))
 (fun (j : Nat) =>
 Prod.fst
 (Prod.snd
 (S.at'
 (S.mkl (S.mdN np) fun (j : Nat) =>
 S.mdR np (fun (j : Nat) => tp (j + ap)) (fun (j : Nat) => vp (j + ap)) j)
 j)))
 (fun (j : Nat) =>
 Prod.snd
 (Prod.snd
 (S.at'
 (S.mkl (S.mdN np) fun (j : Nat) =>
 S.mdR np (fun (j : Nat) => tp (j + ap)) (fun (j : Nat) => vp (j + ap)) j)
 j)))
 (List.length (S.mkl (S.mdN np) fun (j : Nat) => S.mdB o j))
 (fun (j : Nat) => S.at' (S.mkl (S.mdN np) fun (j : Nat) => S.mdB o j) j)
 (List.length (S.mkl nl fun (j : Nat) => S.inp (tl (j + al)))) fun (j : Nat) =>
 S.at' (S.mkl nl fun (j : Nat) => S.inp (tl (j + al))) j))) ≤
 List.length
 (Prod.fst
 (Prod.snd
 (S.histS
 (List.length
 (S.mkl (S.mdN np) fun (j : Nat) =>
 S.mdR np (fun (j : Nat) => tp (j + ap)) (fun (j : Nat) => vp (j + ap)) j))
 (fun (j : Nat) =>
 Prod.fst
 (S.at'
 (S.mkl (S.mdN np) fun (j : Nat) =>
 S.mdR np (fun (j : Nat) => tp (j + ap)) (fun (j : Nat) => vp (j + ap)) j)
 j))
 (fun (j : Nat) =>
 Prod.fst
 (Prod.snd
 (S.at'
 (S.mkl (S.mdN np) fun (j : Nat) =>
 S.mdR np (fun (j : Nat) => tp (j + ap)) (fun (j : Nat) => vp (j + ap)) j)
 j)))
 (fun (j : Nat) =>
 Prod.snd
 (Prod.snd
 (S.at'
 (S.mkl (S.mdN np) fun (j : Nat) =>
 S.mdR np (fun (j : Nat) => tp (j + ap)) (fun (j : Nat) => vp (j + ap)) j)
 j)))
 (List.length (S.mkl (S.mdN np) fun (j : Nat) => S.mdB o j))
 (fun (j : Nat) => S.at' (S.mkl (S.mdN np) fun (j : Nat) => S.mdB o j) j)
 (List.length (S.mkl nl fun (j : Nat) => S.inp (tl (j + al)))) fun (j : Nat) =>
 S.at' (S.mkl nl fun (j : Nat) => S.inp (tl (j + al))) j))) ∧
 List.length
 (Prod.fst
 (Prod.snd
 (S.histS
 (List.length
 (S.mkl (S.mdN np) fun (j : Nat) =>
 S.mdR np (fun (j : Nat) => tp (j + ap)) (fun (j : Nat) => vp (j + ap)) j))
 (fun (j : Nat) =>
 Prod.fst
 (S.at'
 (S.mkl (S.mdN np) fun (j : Nat) =>
 S.mdR np (fun (j : Nat) => tp (j + ap)) (fun (j : Nat) => vp (j + ap)) j)
 j))
 (fun (j : Nat) =>
 Prod.fst
 (Prod.snd
 (S.at'
 (S.mkl (S.mdN np) fun (j : Nat) =>
 S.mdR np (fun (j : Nat) => tp (j + ap)) (fun (j : Nat) => vp (j + ap)) j)
 j)))
 (fun (j : Nat) =>
 Prod.snd
 (Prod.snd
 (S.at'
 (S.mkl (S.mdN np) fun (j : Nat) =>
 S.mdR np (fun (j : Nat) => tp (j + ap)) (fun (j : Nat) => vp (j + ap)) j)
 j)))
 (List.length (S.mkl (S.mdN np) fun (j : Nat) => S.mdB o j))
 (fun (j : Nat) => S.at' (S.mkl (S.mdN np) fun (j : Nat) => S.mdB o j) j)
 (List.length (S.mkl nl fun (j : Nat) => S.inp (tl (j + al)))) fun (j : Nat) =>
 S.at' (S.mkl nl fun (j : Nat) => S.inp (tl (j + al))) j))) ≤
 1000000 ∧
 0 +
 List.length
 (Prod.snd
 (Prod.snd
 (S.histS
 (List.length
 (S.mkl (S.mdN np) fun (j : Nat) =>
 S.mdR np (fun (j : Nat) => tp (j + ap)) (fun (j : Nat) => vp (j + ap)) j))
 (fun (j : Nat) =>
 Prod.fst
 (S.at'
 (S.mkl (S.mdN np) fun (j : Nat) =>
 S.mdR np (fun (j : Nat) => tp (j + ap)) (fun (j : Nat) => vp (j + ap)) j)
 j))
 (fun (j : Nat) =>
 Prod.fst
 (Prod.snd
 (S.at'
 (S.mkl (S.mdN np) fun (j : Nat) =>
 S.mdR np (fun (j : Nat) => tp (j + ap)) (fun (j : Nat) => vp (j + ap)) j)
 j)))
 (fun (j : Nat) =>
 Prod.snd
 (Prod.snd
 (S.at'
 (S.mkl (S.mdN np) fun (j : Nat) =>
 S.mdR np (fun (j : Nat) => tp (j + ap)) (fun (j : Nat) => vp (j + ap)) j)
 j)))
 (List.length (S.mkl (S.mdN np) fun (j : Nat) => S.mdB o j))
 (fun (j : Nat) => S.at' (S.mkl (S.mdN np) fun (j : Nat) => S.mdB o j) j)
 (List.length (S.mkl nl fun (j : Nat) => S.inp (tl (j + al)))) fun (j : Nat) =>
 S.at' (S.mkl nl fun (j : Nat) => S.inp (tl (j + al))) j))) ≤
 List.length
 (Prod.snd
 (Prod.snd
 (S.histS
 (List.length
 (S.mkl (S.mdN np) fun (j : Nat) =>
 S.mdR np (fun (j : Nat) => tp (j + ap)) (fun (j : Nat) => vp (j + ap)) j))
 (fun (j : Nat) =>
 Prod.fst
 (S.at'
 (S.mkl (S.mdN np) fun (j : Nat) =>
 S.mdR np (fun (j : Nat) => tp (j + ap)) (fun (j : Nat) => vp (j + ap)) j)
 j))
 (fun (j : Nat) =>
 Prod.fst
 (Prod.snd
 (S.at'
 (S.mkl (S.mdN np) fun (j : Nat) =>
 S.mdR np (fun (j : Nat) => tp (j + ap)) (fun (j : Nat) => vp (j + ap)) j)
 j)))
 (fun (j : Nat) =>
 Prod.snd
 (Prod.snd
 (S.at'
 (S.mkl (S.mdN np) fun (j : Nat) =>
 S.mdR np (fun (j : Nat) => tp (j + ap)) (fun (j : Nat) => vp (j + ap)) j)
 j)))
 (List.length (S.mkl (S.mdN np) fun (j : Nat) => S.mdB o j))
 (fun (j : Nat) => S.at' (S.mkl (S.mdN np) fun (j : Nat) => S.mdB o j) j)
 (List.length (S.mkl nl fun (j : Nat) => S.inp (tl (j + al)))) fun (j : Nat) =>
 S.at' (S.mkl nl fun (j : Nat) => S.inp (tl (j + al))) j))) ∧
 List.length
 (Prod.snd
 (Prod.snd
 (S.histS
 (List.length
 (S.mkl (S.mdN np) fun (j : Nat) =>
 S.mdR np (fun (j : Nat) => tp (j + ap)) (fun (j : Nat) => vp (j + ap)) j))
 (fun (j : Nat) =>
 Prod.fst
 (S.at'
 (S.mkl (S.mdN np) fun (j : Nat) =>
 S.mdR np (fun (j : Nat) => tp (j + ap)) (fun (j : Nat) => vp (j + ap)) j)
 j))
 (fun (j : Nat) =>
 Prod.fst
 (Prod.snd
 (S.at'
 (S.mkl (S.mdN np) fun (j : Nat) =>
 S.mdR np (fun (j : Nat) => tp (j + ap)) (fun (j : Nat) => vp (j + ap)) j)
 j)))
 (fun (j : Nat) =>
 Prod.snd
 (Prod.snd
 (S.at'
 (S.mkl (S.mdN np) fun (j : Nat) =>
 S.mdR np (fun (j : Nat) => tp (j + ap)) (fun (j : Nat) => vp (j + ap)) j)
 j)))
 (List.length (S.mkl (S.mdN np) fun (j : Nat) => S.mdB o j))
 (fun (j : Nat) => S.at' (S.mkl (S.mdN np) fun (j : Nat) => S.mdB o j) j)
 (List.length (S.mkl nl fun (j : Nat) => S.inp (tl (j + al)))) fun (j : Nat) =>
 S.at' (S.mkl nl fun (j : Nat) => S.inp (tl (j + al))) j))) ≤
 1000000 ∧
 0 +
 List.length
 (Prod.fst
 (Prod.snd
 (S.histS
 (List.length
 (S.mkl (S.mdN np) fun (j : Nat) =>
 S.mdR np (fun (j : Nat) => tp (j + ap)) (fun (j : Nat) => vp (j + ap)) j))
 (fun (j : Nat) =>
 Prod.fst
 (S.at'
 (S.mkl (S.mdN np) fun (j : Nat) =>
 S.mdR np (fun (j : Nat) => tp (j + ap)) (fun (j : Nat) => vp (j + ap)) j)
 j))
 (fun (j : Nat) =>
 Prod.fst
 (Prod.snd
 (S.at'
 (S.mkl (S.mdN np) fun (j : Nat) =>
 S.mdR np (fun (j : Nat) => tp (j + ap)) (fun (j : Nat) => vp (j + ap)) j)
 j)))
 (fun (j : Nat) =>
 Prod.snd
 (Prod.snd
 (S.at'
 (S.mkl (S.mdN np) fun (j : Nat) =>
 S.mdR np (fun (j : Nat) => tp (j + ap)) (fun (j : Nat) => vp (j + ap)) j)
 j)))
 (List.length (S.mkl (S.mdN np) fun (j : Nat) => S.mdB ones j))
 (fun (j : Nat) =>
 S.at' (S.mkl (S.mdN np) fun (j : Nat) => S.mdB ones j) j)
 (List.length (S.mkl nl fun (j : Nat) => S.inp (tl (j + al)))) fun (j : Nat) =>
 S.at' (S.mkl nl fun (j : Nat) => S.inp (tl (j + al))) j))) ≤
 List.length
 (Prod.fst
 (Prod.snd
 (S.histS
 (List.length
 (S.mkl (S.mdN np) fun (j : Nat) =>
 S.mdR np (fun (j : Nat) => tp (j + ap)) (fun (j : Nat) => vp (j + ap)) j))
 (fun (j : Nat) =>
 Prod.fst
 (S.at'
 (S.mkl (S.mdN np) fun (j : Nat) =>
 S.mdR np (fun (j : Nat) => tp (j + ap)) (fun (j : Nat) => vp (j + ap)) j)
 j))
 (fun (j : Nat) =>
 Prod.fst
 (Prod.snd
 (S.at'
 (S.mkl (S.mdN np) fun (j : Nat) =>
 S.mdR np (fun (j : Nat) => tp (j + ap)) (fun (j : Nat) => vp (j + ap)) j)
 j)))
 (fun (j : Nat) =>
 Prod.snd
 (Prod.snd
 (S.at'
 (S.mkl (S.mdN np) fun (j : Nat) =>
 S.mdR np (fun (j : Nat) => tp (j + ap)) (fun (j : Nat) => vp (j + ap)) j)
 j)))
 (List.length (S.mkl (S.mdN np) fun (j : Nat) => S.mdB ones j))
 (fun (j : Nat) =>
 S.at' (S.mkl (S.mdN np) fun (j : Nat) => S.mdB ones j) j)
 (List.length (S.mkl nl fun (j : Nat) => S.inp (tl (j + al)))) fun (j : Nat) =>
 S.at' (S.mkl nl fun (j : Nat) => S.inp (tl (j + al))) j))) ∧
 List.length
 (Prod.fst
 (Prod.snd
 (S.histS
 (List.length
 (S.mkl (S.mdN np) fun (j : Nat) =>
 S.mdR np (fun (j : Nat) => tp (j + ap)) (fun (j : Nat) => vp (j + ap)) j))
 (fun (j : Nat) =>
 Prod.fst
 (S.at'
 (S.mkl (S.mdN np) fun (j : Nat) =>
 S.mdR np (fun (j : Nat) => tp (j + ap)) (fun (j : Nat) => vp (j + ap)) j)
 j))
 (fun (j : Nat) =>
 Prod.fst
 (Prod.snd
 (S.at'
 (S.mkl (S.mdN np) fun (j : Nat) =>
 S.mdR np (fun (j : Nat) => tp (j + ap)) (fun (j : Nat) => vp (j + ap)) j)
 j)))
 (fun (j : Nat) =>
 Prod.snd
 (Prod.snd
 (S.at'
 (S.mkl (S.mdN np) fun (j : Nat) =>
 S.mdR np (fun (j : Nat) => tp (j + ap)) (fun (j : Nat) => vp (j + ap)) j)
 j)))
 (List.length (S.mkl (S.mdN np) fun (j : Nat) => S.mdB ones j))
 (fun (j : Nat) =>
 S.at' (S.mkl (S.mdN np) fun (j : Nat) => S.mdB ones j) j)
 (List.length (S.mkl nl fun (j : Nat) => S.inp (tl (j + al)))) fun (j : Nat) =>
 S.at' (S.mkl nl fun (j : Nat) => S.inp (tl (j + al))) j))) ≤
 1000000 ∧
 0 +
 List.length
 (Prod.snd
 (Prod.snd
 (S.histS
 (List.length
 (S.mkl (S.mdN np) fun (j : Nat) =>
 S.mdR np (fun (j : Nat) => tp (j + ap)) (fun (j : Nat) => vp (j + ap)) j))
 (fun (j : Nat) =>
 Prod.fst
 (S.at'
 (S.mkl (S.mdN np) fun (j : Nat) =>
 S.mdR np (fun (j : Nat) => tp (j + ap)) (fun (j : Nat) => vp (j + ap)) j)
 j))
 (fun (j : Nat) =>
 Prod.fst
 (Prod.snd
 (S.at'
 (S.mkl (S.mdN np) fun (j : Nat) =>
 S.mdR np (fun (j : Nat) => tp (j + ap)) (fun (j : Nat) => vp (j + ap)) j)
 j)))
 (fun (j : Nat) =>
 Prod.snd
 (Prod.snd
 (S.at'
 (S.mkl (S.mdN np) fun (j : Nat) =>
 S.mdR np (fun (j : Nat) => tp (j + ap)) (fun (j : Nat) => vp (j + ap)) j)
 j)))
 (List.length (S.mkl (S.mdN np) fun (j : Nat) => S.mdB ones j))
 (fun (j : Nat) =>
 S.at' (S.mkl (S.mdN np) fun (j : Nat) => S.mdB ones j) j)
 (List.length (S.mkl nl fun (j : Nat) => S.inp (tl (j + al)))) fun (j : Nat) =>
 S.at' (S.mkl nl fun (j : Nat) => S.inp (tl (j + al))) j))) ≤
 List.length
 (Prod.snd
 (Prod.snd
 (S.histS
 (List.length
 (S.mkl (S.mdN np) fun (j : Nat) =>
 S.mdR np (fun (j : Nat) => tp (j + ap)) (fun (j : Nat) => vp (j + ap)) j))
 (fun (j : Nat) =>
 Prod.fst
 (S.at'
 (S.mkl (S.mdN np) fun (j : Nat) =>
 S.mdR np (fun (j : Nat) => tp (j + ap)) (fun (j : Nat) => vp (j + ap)) j)
 j))
 (fun (j : Nat) =>
 Prod.fst
 (Prod.snd
 (S.at'
 (S.mkl (S.mdN np) fun (j : Nat) =>
 S.mdR np (fun (j : Nat) => tp (j + ap)) (fun (j : Nat) => vp (j + ap)) j)
 j)))
 (fun (j : Nat) =>
 Prod.snd
 (Prod.snd
 (S.at'
 (S.mkl (S.mdN np) fun (j : Nat) =>
 S.mdR np (fun (j : Nat) => tp (j + ap)) (fun (j : Nat) => vp (j + ap)) j)
 j)))
 (List.length (S.mkl (S.mdN np) fun (j : Nat) => S.mdB ones j))
 (fun (j : Nat) =>
 S.at' (S.mkl (S.mdN np) fun (j : Nat) => S.mdB ones j) j)
 (List.length (S.mkl nl fun (j : Nat) => S.inp (tl (j + al)))) fun (j : Nat) =>
 S.at' (S.mkl nl fun (j : Nat) => S.inp (tl (j + al))) j))) ∧
 List.length
 (Prod.snd
 (Prod.snd
 (S.histS
 (List.length
 (S.mkl (S.mdN np) fun (j : Nat) =>
 S.mdR np (fun (j : Nat) => tp (j + ap)) (fun (j : Nat) => vp (j + ap)) j))
 (fun (j : Nat) =>
 Prod.fst
 (S.at'
 (S.mkl (S.mdN np) fun (j : Nat) =>
 S.mdR np (fun (j : Nat) => tp (j + ap)) (fun (j : Nat) => vp (j + ap)) j)
 j))
 (fun (j : Nat) =>
 Prod.fst
 (Prod.snd
 (S.at'
 (S.mkl (S.mdN np) fun (j : Nat) =>
 S.mdR np (fun (j : Nat) => tp (j + ap)) (fun (j : Nat) => vp (j + ap)) j)
 j)))
 (fun (j : Nat) =>
 Prod.snd
 (Prod.snd
 (S.at'
 (S.mkl (S.mdN np) fun (j : Nat) =>
 S.mdR np (fun (j : Nat) => tp (j + ap)) (fun (j : Nat) => vp (j + ap)) j)
 j)))
 (List.length (S.mkl (S.mdN np) fun (j : Nat) => S.mdB ones j))
 (fun (j : Nat) =>
 S.at' (S.mkl (S.mdN np) fun (j : Nat) => S.mdB ones j) j)
 (List.length (S.mkl nl fun (j : Nat) => S.inp (tl (j + al)))) fun (j : Nat) =>
 S.at' (S.mkl nl fun (j : Nat) => S.inp (tl (j + al))) j))) ≤
 1000000))
 then (bif (decide
 ((S.mkl
 (List.length
 (Prod.fst
 (Prod.snd
 (S.histS
 (List.length
 (S.mkl (S.mdN np) fun (j : Nat) =>
 S.mdR np (fun (j : Nat) => tp (j + ap)) (fun (j : Nat) => vp (j + ap)) j))
 (fun (j : Nat) =>
 Prod.fst
 (S.at'
 (S.mkl (S.mdN np) fun (j : Nat) =>
 S.mdR np (fun (j : Nat) => tp (j + ap)) (fun (j : Nat) => vp (j + ap)) j)
 j))
 (fun (j : Nat) =>
 Prod.fst
 (Prod.snd
 (S.at'
 (S.mkl (S.mdN np) fun (j : Nat) =>
 S.mdR np (fun (j : Nat) => tp (j + ap)) (fun (j : Nat) => vp (j + ap)) j)
 j)))
 (fun (j : Nat) =>
 Prod.snd
 (Prod.snd
 (S.at'
 (S.mkl (S.mdN np) fun (j : Nat) =>
 S.mdR np (fun (j : Nat) => tp (j + ap)) (fun (j : Nat) => vp (j + ap)) j)
 j)))
 (List.length (S.mkl (S.mdN np) fun (j : Nat) => S.mdB o j))
 (fun (j : Nat) => S.at' (S.mkl (S.mdN np) fun (j : Nat) => S.mdB o j) j)
 (List.length (S.mkl nl fun (j : Nat) => S.inp (tl (j + al)))) fun (j : Nat) =>
 S.at' (S.mkl nl fun (j : Nat) => S.inp (tl (j + al))) j))))
 fun (j : Nat) =>
 (Prod.fst
 (S.at'
 (Prod.fst
 (Prod.snd
 (S.histS
 (List.length
 (S.mkl (S.mdN np) fun (j : Nat) =>
 S.mdR np (fun (j : Nat) => tp (j + ap)) (fun (j : Nat) => vp (j + ap)) j))
 (fun (j : Nat) =>
 Prod.fst
 (S.at'
 (S.mkl (S.mdN np) fun (j : Nat) =>
 S.mdR np (fun (j : Nat) => tp (j + ap)) (fun (j : Nat) => vp (j + ap)) j)
 j))
 (fun (j : Nat) =>
 Prod.fst
 (Prod.snd
 (S.at'
 (S.mkl (S.mdN np) fun (j : Nat) =>
 S.mdR np (fun (j : Nat) => tp (j + ap)) (fun (j : Nat) => vp (j + ap)) j)
 j)))
 (fun (j : Nat) =>
 Prod.snd
 (Prod.snd
 (S.at'
 (S.mkl (S.mdN np) fun (j : Nat) =>
 S.mdR np (fun (j : Nat) => tp (j + ap)) (fun (j : Nat) => vp (j + ap)) j)
 j)))
 (List.length (S.mkl (S.mdN np) fun (j : Nat) => S.mdB o j))
 (fun (j : Nat) => S.at' (S.mkl (S.mdN np) fun (j : Nat) => S.mdB o j) j)
 (List.length (S.mkl nl fun (j : Nat) => S.inp (tl (j + al)))) fun (j : Nat) =>
 S.at' (S.mkl nl fun (j : Nat) => S.inp (tl (j + al))) j)))
 j),
 Prod.fst
 (Prod.snd
 (S.at'
 (Prod.fst
 (Prod.snd
 (S.histS
 (List.length
 (S.mkl (S.mdN np) fun (j : Nat) =>
 S.mdR np (fun (j : Nat) => tp (j + ap)) (fun (j : Nat) => vp (j + ap)) j))
 (fun (j : Nat) =>
 Prod.fst
 (S.at'
 (S.mkl (S.mdN np) fun (j : Nat) =>
 S.mdR np (fun (j : Nat) => tp (j + ap)) (fun (j : Nat) => vp (j + ap)) j)
 j))
 (fun (j : Nat) =>
 Prod.fst
 (Prod.snd
 (S.at'
 (S.mkl (S.mdN np) fun (j : Nat) =>
 S.mdR np (fun (j : Nat) => tp (j + ap)) (fun (j : Nat) => vp (j + ap)) j)
 j)))
 (fun (j : Nat) =>
 Prod.snd
 (Prod.snd
 (S.at'
 (S.mkl (S.mdN np) fun (j : Nat) =>
 S.mdR np (fun (j : Nat) => tp (j + ap)) (fun (j : Nat) => vp (j + ap)) j)
 j)))
 (List.length (S.mkl (S.mdN np) fun (j : Nat) => S.mdB o j))
 (fun (j : Nat) => S.at' (S.mkl (S.mdN np) fun (j : Nat) => S.mdB o j) j)
 (List.length (S.mkl nl fun (j : Nat) => S.inp (tl (j + al)))) fun (j : Nat) =>
 S.at' (S.mkl nl fun (j : Nat) => S.inp (tl (j + al))) j)))
 j)),
 Prod.snd
 (Prod.snd
 (S.at'
 (Prod.fst
 (Prod.snd
 (S.histS
 (List.length
 (S.mkl (S.mdN np) fun (j : Nat) =>
 S.mdR np (fun (j : Nat) => tp (j + ap)) (fun (j : Nat) => vp (j + ap)) j))
 (fun (j : Nat) =>
 Prod.fst
 (S.at'
 (S.mkl (S.mdN np) fun (j : Nat) =>
 S.mdR np (fun (j : Nat) => tp (j + ap)) (fun (j : Nat) => vp (j + ap)) j)
 j))
 (fun (j : Nat) =>
 Prod.fst
 (Prod.snd
 (S.at'
 (S.mkl (S.mdN np) fun (j : Nat) =>
 S.mdR np (fun (j : Nat) => tp (j + ap)) (fun (j : Nat) => vp (j + ap)) j)
 j)))
 (fun (j : Nat) =>
 Prod.snd
 (Prod.snd
 (S.at'
 (S.mkl (S.mdN np) fun (j : Nat) =>
 S.mdR np (fun (j : Nat) => tp (j + ap)) (fun (j : Nat) => vp (j + ap)) j)
 j)))
 (List.length (S.mkl (S.mdN np) fun (j : Nat) => S.mdB o j))
 (fun (j : Nat) => S.at' (S.mkl (S.mdN np) fun (j : Nat) => S.mdB o j) j)
 (List.length (S.mkl nl fun (j : Nat) => S.inp (tl (j + al)))) fun (j : Nat) =>
 S.at' (S.mkl nl fun (j : Nat) => S.inp (tl (j + al))) j)))
 j)))) =
 S.mkl
 (List.length
 (Prod.fst
 (Prod.snd
 (S.histS
 (List.length
 (S.mkl (S.mdN np) fun (j : Nat) =>
 S.mdR np (fun (j : Nat) => tp (j + ap)) (fun (j : Nat) => vp (j + ap)) j))
 (fun (j : Nat) =>
 Prod.fst
 (S.at'
 (S.mkl (S.mdN np) fun (j : Nat) =>
 S.mdR np (fun (j : Nat) => tp (j + ap)) (fun (j : Nat) => vp (j + ap)) j)
 j))
 (fun (j : Nat) =>
 Prod.fst
 (Prod.snd
 (S.at'
 (S.mkl (S.mdN np) fun (j : Nat) =>
 S.mdR np (fun (j : Nat) => tp (j + ap)) (fun (j : Nat) => vp (j + ap)) j)
 j)))
 (fun (j : Nat) =>
 Prod.snd
 (Prod.snd
 (S.at'
 (S.mkl (S.mdN np) fun (j : Nat) =>
 S.mdR np (fun (j : Nat) => tp (j + ap)) (fun (j : Nat) => vp (j + ap)) j)
 j)))
 (List.length (S.mkl (S.mdN np) fun (j : Nat) => S.mdB ones j))
 (fun (j : Nat) => S.at' (S.mkl (S.mdN np) fun (j : Nat) => S.mdB ones j) j)
 (List.length (S.mkl nl fun (j : Nat) => S.inp (tl (j + al)))) fun (j : Nat) =>
 S.at' (S.mkl nl fun (j : Nat) => S.inp (tl (j + al))) j))))
 fun (j : Nat) =>
 (Prod.fst
 (S.at'
 (Prod.fst
 (Prod.snd
 (S.histS
 (List.length
 (S.mkl (S.mdN np) fun (j : Nat) =>
 S.mdR np (fun (j : Nat) => tp (j + ap)) (fun (j : Nat) => vp (j + ap)) j))
 (fun (j : Nat) =>
 Prod.fst
 (S.at'
 (S.mkl (S.mdN np) fun (j : Nat) =>
 S.mdR np (fun (j : Nat) => tp (j + ap)) (fun (j : Nat) => vp (j + ap)) j)
 j))
 (fun (j : Nat) =>
 Prod.fst
 (Prod.snd
 (S.at'
 (S.mkl (S.mdN np) fun (j : Nat) =>
 S.mdR np (fun (j : Nat) => tp (j + ap)) (fun (j : Nat) => vp (j + ap)) j)
 j)))
 (fun (j : Nat) =>
 Prod.snd
 (Prod.snd
 (S.at'
 (S.mkl (S.mdN np) fun (j : Nat) =>
 S.mdR np (fun (j : Nat) => tp (j + ap)) (fun (j : Nat) => vp (j + ap)) j)
 j)))
 (List.length (S.mkl (S.mdN np) fun (j : Nat) => S.mdB ones j))
 (fun (j : Nat) => S.at' (S.mkl (S.mdN np) fun (j : Nat) => S.mdB ones j) j)
 (List.length (S.mkl nl fun (j : Nat) => S.inp (tl (j + al)))) fun (j : Nat) =>
 S.at' (S.mkl nl fun (j : Nat) => S.inp (tl (j + al))) j)))
 j),
 Prod.fst
 (Prod.snd
 (S.at'
 (Prod.fst
 (Prod.snd
 (S.histS
 (List.length
 (S.mkl (S.mdN np) fun (j : Nat) =>
 S.mdR np (fun (j : Nat) => tp (j + ap)) (fun (j : Nat) => vp (j + ap)) j))
 (fun (j : Nat) =>
 Prod.fst
 (S.at'
 (S.mkl (S.mdN np) fun (j : Nat) =>
 S.mdR np (fun (j : Nat) => tp (j + ap)) (fun (j : Nat) => vp (j + ap)) j)
 j))
 (fun (j : Nat) =>
 Prod.fst
 (Prod.snd
 (S.at'
 (S.mkl (S.mdN np) fun (j : Nat) =>
 S.mdR np (fun (j : Nat) => tp (j + ap)) (fun (j : Nat) => vp (j + ap)) j)
 j)))
 (fun (j : Nat) =>
 Prod.snd
 (Prod.snd
 (S.at'
 (S.mkl (S.mdN np) fun (j : Nat) =>
 S.mdR np (fun (j : Nat) => tp (j + ap)) (fun (j : Nat) => vp (j + ap)) j)
 j)))
 (List.length (S.mkl (S.mdN np) fun (j : Nat) => S.mdB ones j))
 (fun (j : Nat) =>
 S.at' (S.mkl (S.mdN np) fun (j : Nat) => S.mdB ones j) j)
 (List.length (S.mkl nl fun (j : Nat) => S.inp (tl (j + al)))) fun (j : Nat) =>
 S.at' (S.mkl nl fun (j : Nat) => S.inp (tl (j + al))) j)))
 j)),
 Prod.snd
 (Prod.snd
 (S.at'
 (Prod.fst
 (Prod.snd
 (S.histS
 (List.length
 (S.mkl (S.mdN np) fun (j : Nat) =>
 S.mdR np (fun (j : Nat) => tp (j + ap)) (fun (j : Nat) => vp (j + ap)) j))
 (fun (j : Nat) =>
 Prod.fst
 (S.at'
 (S.mkl (S.mdN np) fun (j : Nat) =>
 S.mdR np (fun (j : Nat) => tp (j + ap)) (fun (j : Nat) => vp (j + ap)) j)
 j))
 (fun (j : Nat) =>
 Prod.fst
 (Prod.snd
 (S.at'
 (S.mkl (S.mdN np) fun (j : Nat) =>
 S.mdR np (fun (j : Nat) => tp (j + ap)) (fun (j : Nat) => vp (j + ap)) j)
 j)))
 (fun (j : Nat) =>
 Prod.snd
 (Prod.snd
 (S.at'
 (S.mkl (S.mdN np) fun (j : Nat) =>
 S.mdR np (fun (j : Nat) => tp (j + ap)) (fun (j : Nat) => vp (j + ap)) j)
 j)))
 (List.length (S.mkl (S.mdN np) fun (j : Nat) => S.mdB ones j))
 (fun (j : Nat) =>
 S.at' (S.mkl (S.mdN np) fun (j : Nat) => S.mdB ones j) j)
 (List.length (S.mkl nl fun (j : Nat) => S.inp (tl (j + al)))) fun (j : Nat) =>
 S.at' (S.mkl nl fun (j : Nat) => S.inp (tl (j + al))) j)))
 j)))) &&
 decide
 ((S.mkl
 (List.length
 (Prod.snd
 (Prod.snd
 (S.histS
 (List.length
 (S.mkl (S.mdN np) fun (j : Nat) =>
 S.mdR np (fun (j : Nat) => tp (j + ap)) (fun (j : Nat) => vp (j + ap)) j))
 (fun (j : Nat) =>
 Prod.fst
 (S.at'
 (S.mkl (S.mdN np) fun (j : Nat) =>
 S.mdR np (fun (j : Nat) => tp (j + ap)) (fun (j : Nat) => vp (j + ap)) j)
 j))
 (fun (j : Nat) =>
 Prod.fst
 (Prod.snd
 (S.at'
 (S.mkl (S.mdN np) fun (j : Nat) =>
 S.mdR np (fun (j : Nat) => tp (j + ap)) (fun (j : Nat) => vp (j + ap)) j)
 j)))
 (fun (j : Nat) =>
 Prod.snd
 (Prod.snd
 (S.at'
 (S.mkl (S.mdN np) fun (j : Nat) =>
 S.mdR np (fun (j : Nat) => tp (j + ap)) (fun (j : Nat) => vp (j + ap)) j)
 j)))
 (List.length (S.mkl (S.mdN np) fun (j : Nat) => S.mdB o j))
 (fun (j : Nat) => S.at' (S.mkl (S.mdN np) fun (j : Nat) => S.mdB o j) j)
 (List.length (S.mkl nl fun (j : Nat) => S.inp (tl (j + al)))) fun (j : Nat) =>
 S.at' (S.mkl nl fun (j : Nat) => S.inp (tl (j + al))) j))))
 fun (j : Nat) =>
 S.at'
 (Prod.snd
 (Prod.snd
 (S.histS
 (List.length
 (S.mkl (S.mdN np) fun (j : Nat) =>
 S.mdR np (fun (j : Nat) => tp (j + ap)) (fun (j : Nat) => vp (j + ap)) j))
 (fun (j : Nat) =>
 Prod.fst
 (S.at'
 (S.mkl (S.mdN np) fun (j : Nat) =>
 S.mdR np (fun (j : Nat) => tp (j + ap)) (fun (j : Nat) => vp (j + ap)) j)
 j))
 (fun (j : Nat) =>
 Prod.fst
 (Prod.snd
 (S.at'
 (S.mkl (S.mdN np) fun (j : Nat) =>
 S.mdR np (fun (j : Nat) => tp (j + ap)) (fun (j : Nat) => vp (j + ap)) j)
 j)))
 (fun (j : Nat) =>
 Prod.snd
 (Prod.snd
 (S.at'
 (S.mkl (S.mdN np) fun (j : Nat) =>
 S.mdR np (fun (j : Nat) => tp (j + ap)) (fun (j : Nat) => vp (j + ap)) j)
 j)))
 (List.length (S.mkl (S.mdN np) fun (j : Nat) => S.mdB o j))
 (fun (j : Nat) => S.at' (S.mkl (S.mdN np) fun (j : Nat) => S.mdB o j) j)
 (List.length (S.mkl nl fun (j : Nat) => S.inp (tl (j + al)))) fun (j : Nat) =>
 S.at' (S.mkl nl fun (j : Nat) => S.inp (tl (j + al))) j)))
 j) =
 S.mkl
 (List.length
 (Prod.snd
 (Prod.snd
 (S.histS
 (List.length
 (S.mkl (S.mdN np) fun (j : Nat) =>
 S.mdR np (fun (j : Nat) => tp (j + ap)) (fun (j : Nat) => vp (j + ap)) j))
 (fun (j : Nat) =>
 Prod.fst
 (S.at'
 (S.mkl (S.mdN np) fun (j : Nat) =>
 S.mdR np (fun (j : Nat) => tp (j + ap)) (fun (j : Nat) => vp (j + ap)) j)
 j))
 (fun (j : Nat) =>
 Prod.fst
 (Prod.snd
 (S.at'
 (S.mkl (S.mdN np) fun (j : Nat) =>
 S.mdR np (fun (j : Nat) => tp (j + ap)) (fun (j : Nat) => vp (j + ap)) j)
 j)))
 (fun (j : Nat) =>
 Prod.snd
 (Prod.snd
 (S.at'
 (S.mkl (S.mdN np) fun (j : Nat) =>
 S.mdR np (fun (j : Nat) => tp (j + ap)) (fun (j : Nat) => vp (j + ap)) j)
 j)))
 (List.length (S.mkl (S.mdN np) fun (j : Nat) => S.mdB ones j))
 (fun (j : Nat) => S.at' (S.mkl (S.mdN np) fun (j : Nat) => S.mdB ones j) j)
 (List.length (S.mkl nl fun (j : Nat) => S.inp (tl (j + al)))) fun (j : Nat) =>
 S.at' (S.mkl nl fun (j : Nat) => S.inp (tl (j + al))) j))))
 fun (j : Nat) =>
 S.at'
 (Prod.snd
 (Prod.snd
 (S.histS
 (List.length
 (S.mkl (S.mdN np) fun (j : Nat) =>
 S.mdR np (fun (j : Nat) => tp (j + ap)) (fun (j : Nat) => vp (j + ap)) j))
 (fun (j : Nat) =>
 Prod.fst
 (S.at'
 (S.mkl (S.mdN np) fun (j : Nat) =>
 S.mdR np (fun (j : Nat) => tp (j + ap)) (fun (j : Nat) => vp (j + ap)) j)
 j))
 (fun (j : Nat) =>
 Prod.fst
 (Prod.snd
 (S.at'
 (S.mkl (S.mdN np) fun (j : Nat) =>
 S.mdR np (fun (j : Nat) => tp (j + ap)) (fun (j : Nat) => vp (j + ap)) j)
 j)))
 (fun (j : Nat) =>
 Prod.snd
 (Prod.snd
 (S.at'
 (S.mkl (S.mdN np) fun (j : Nat) =>
 S.mdR np (fun (j : Nat) => tp (j + ap)) (fun (j : Nat) => vp (j + ap)) j)
 j)))
 (List.length (S.mkl (S.mdN np) fun (j : Nat) => S.mdB ones j))
 (fun (j : Nat) => S.at' (S.mkl (S.mdN np) fun (j : Nat) => S.mdB ones j) j)
 (List.length (S.mkl nl fun (j : Nat) => S.inp (tl (j + al)))) fun (j : Nat) =>
 S.at' (S.mkl nl fun (j : Nat) => S.inp (tl (j + al))) j)))
 j))
 then (some (.inr (true)))
 else (some (.inr (false))))
 else (none))
 else (some (.inr (false))))
 else (none)))))))
 else (none))
 else (none))
 else (none))
 else (bif (decide
 (0 +
 List.length
 (S.mkl (S.mdN np) fun (j : Nat) =>
 S.mdR np (fun (j : Nat) => tp (j + ap)) (fun (j : Nat) => vp (j + ap)) j) ≤
 List.length
 (S.mkl (S.mdN np) fun (j : Nat) =>
 S.mdR np (fun (j : Nat) => tp (j + ap)) (fun (j : Nat) => vp (j + ap)) j) ∧
 List.length
 (S.mkl (S.mdN np) fun (j : Nat) =>
 S.mdR np (fun (j : Nat) => tp (j + ap)) (fun (j : Nat) => vp (j + ap)) j) ≤
 1000000 ∧
 0 + List.length (S.mkl (S.mdN np) fun (j : Nat) => S.mdB ones j) ≤
 List.length (S.mkl (S.mdN np) fun (j : Nat) => S.mdB ones j) ∧
 List.length (S.mkl (S.mdN np) fun (j : Nat) => S.mdB ones j) ≤ 1000000 ∧
 0 + List.length (S.mkl nl fun (j : Nat) => S.inp (tl (j + al))) ≤
 List.length (S.mkl nl fun (j : Nat) => S.inp (tl (j + al))) ∧
 List.length (S.mkl nl fun (j : Nat) => S.inp (tl (j + al))) ≤ 1000000))
 then (bif (decide
 (0 +
 List.length
 (S.mkl (S.mdN np) fun (j : Nat) =>
 S.mdR np (fun (j : Nat) => tp (j + ap)) (fun (j : Nat) => vp (j + ap)) j) ≤
 List.length
 (S.mkl (S.mdN np) fun (j : Nat) =>
 S.mdR np (fun (j : Nat) => tp (j + ap)) (fun (j : Nat) => vp (j + ap)) j) ∧
 List.length
 (S.mkl (S.mdN np) fun (j : Nat) =>
 S.mdR np (fun (j : Nat) => tp (j + ap)) (fun (j : Nat) => vp (j + ap)) j) ≤
 1000000 ∧
 0 + List.length (S.mkl (S.mdN np) fun (j : Nat) => S.mdB (0 : Int) j) ≤
 List.length (S.mkl (S.mdN np) fun (j : Nat) => S.mdB (0 : Int) j) ∧
 List.length (S.mkl (S.mdN np) fun (j : Nat) => S.mdB (0 : Int) j) ≤ 1000000 ∧
 0 + List.length (S.mkl nl fun (j : Nat) => S.inp (tl (j + al))) ≤
 List.length (S.mkl nl fun (j : Nat) => S.inp (tl (j + al))) ∧
 List.length (S.mkl nl fun (j : Nat) => S.inp (tl (j + al))) ≤ 1000000))
 then (bif (decide
 (0 +
 List.length
 (S.mkl (S.mdN np) fun (j : Nat) =>
 S.mdR np (fun (j : Nat) => tp (j + ap)) (fun (j : Nat) => vp (j + ap)) j) ≤
 List.length
 (S.mkl (S.mdN np) fun (j : Nat) =>
 S.mdR np (fun (j : Nat) => tp (j + ap)) (fun (j : Nat) => vp (j + ap)) j) ∧
 List.length
 (S.mkl (S.mdN np) fun (j : Nat) =>
 S.mdR np (fun (j : Nat) => tp (j + ap)) (fun (j : Nat) => vp (j + ap)) j) ≤
 1000000 ∧
 0 + List.length (S.mkl (S.mdN np) fun (j : Nat) => S.mdB (4095 : Int) j) ≤
 List.length (S.mkl (S.mdN np) fun (j : Nat) => S.mdB (4095 : Int) j) ∧
 List.length (S.mkl (S.mdN np) fun (j : Nat) => S.mdB (4095 : Int) j) ≤ 1000000 ∧
 0 + List.length (S.mkl nl fun (j : Nat) => S.inp (tl (j + al))) ≤
 List.length (S.mkl nl fun (j : Nat) => S.inp (tl (j + al))) ∧
 List.length (S.mkl nl fun (j : Nat) => S.inp (tl (j + al))) ≤ 1000000))
 then (bif (Prod.snd
 (S.erS
 (List.length
 (S.mkl (S.mdN np) fun (j : Nat) =>
 S.mdR np (fun (j : Nat) => tp (j + ap)) (fun (j : Nat) => vp (j + ap)) j))
 (fun (j : Nat) =>
 Prod.fst
 (S.at'
 (S.mkl (S.mdN np) fun (j : Nat) =>
 S.mdR np (fun (j : Nat) => tp (j + ap)) (fun (j : Nat) => vp (j + ap)) j)
 j))
 (fun (j : Nat) =>
 Prod.fst
 (Prod.snd
 (S.at'
 (S.mkl (S.mdN np) fun (j : Nat) =>
 S.mdR np (fun (j : Nat) => tp (j + ap)) (fun (j : Nat) => vp (j + ap)) j)
 j)))
 (fun (j : Nat) =>
 Prod.snd
 (Prod.snd
 (S.at'
 (S.mkl (S.mdN np) fun (j : Nat) =>
 S.mdR np (fun (j : Nat) => tp (j + ap)) (fun (j : Nat) => vp (j + ap)) j)
 j)))
 (List.length (S.mkl (S.mdN np) fun (j : Nat) => S.mdB o j))
 (List.length (S.mkl nl fun (j : Nat) => S.inp (tl (j + al)))) fun (j : Nat) =>
 S.at' (S.mkl nl fun (j : Nat) => S.inp (tl (j + al))) j) !=
 (0 : Int))
 then (some (.inr (false)))
 else (bif (Prod.fst
 (S.histS
 (List.length
 (S.mkl (S.mdN np) fun (j : Nat) =>
 S.mdR np (fun (j : Nat) => tp (j + ap)) (fun (j : Nat) => vp (j + ap)) j))
 (fun (j : Nat) =>
 Prod.fst
 (S.at'
 (S.mkl (S.mdN np) fun (j : Nat) =>
 S.mdR np (fun (j : Nat) => tp (j + ap)) (fun (j : Nat) => vp (j + ap)) j)
 j))
 (fun (j : Nat) =>
 Prod.fst
 (Prod.snd
 (S.at'
 (S.mkl (S.mdN np) fun (j : Nat) =>
 S.mdR np (fun (j : Nat) => tp (j + ap)) (fun (j : Nat) => vp (j + ap)) j)
 j)))
 (fun (j : Nat) =>
 Prod.snd
 (Prod.snd
 (S.at'
 (S.mkl (S.mdN np) fun (j : Nat) =>
 S.mdR np (fun (j : Nat) => tp (j + ap)) (fun (j : Nat) => vp (j + ap)) j)
 j)))
 (List.length (S.mkl (S.mdN np) fun (j : Nat) => S.mdB o j))
 (fun (j : Nat) => S.at' (S.mkl (S.mdN np) fun (j : Nat) => S.mdB o j) j)
 (List.length (S.mkl nl fun (j : Nat) => S.inp (tl (j + al)))) fun (j : Nat) =>
 S.at' (S.mkl nl fun (j : Nat) => S.inp (tl (j + al))) j) !=
 (0 : Int))
 then (some (.inr (false)))
 else (bif (Prod.fst
 (S.histS
 (List.length
 (S.mkl (S.mdN np) fun (j : Nat) =>
 S.mdR np (fun (j : Nat) => tp (j + ap)) (fun (j : Nat) => vp (j + ap)) j))
 (fun (j : Nat) =>
 Prod.fst
 (S.at'
 (S.mkl (S.mdN np) fun (j : Nat) =>
 S.mdR np (fun (j : Nat) => tp (j + ap)) (fun (j : Nat) => vp (j + ap)) j)
 j))
 (fun (j : Nat) =>
 Prod.fst
 (Prod.snd
 (S.at'
 (S.mkl (S.mdN np) fun (j : Nat) =>
 S.mdR np (fun (j : Nat) => tp (j + ap)) (fun (j : Nat) => vp (j + ap)) j)
 j)))
 (fun (j : Nat) =>
 Prod.snd
 (Prod.snd
 (S.at'
 (S.mkl (S.mdN np) fun (j : Nat) =>
 S.mdR np (fun (j : Nat) => tp (j + ap)) (fun (j : Nat) => vp (j + ap)) j)
 j)))
 (List.length (S.mkl (S.mdN np) fun (j : Nat) => S.mdB ones j))
 (fun (j : Nat) => S.at' (S.mkl (S.mdN np) fun (j : Nat) => S.mdB ones j) j)
 (List.length (S.mkl nl fun (j : Nat) => S.inp (tl (j + al)))) fun (j : Nat) =>
 S.at' (S.mkl nl fun (j : Nat) => S.inp (tl (j + al))) j) !=
 (0 : Int))
 then (some (.inr (false)))
 else (bif (Prod.fst
 (S.histS
 (List.length
 (S.mkl (S.mdN np) fun (j : Nat) =>
 S.mdR np (fun (j : Nat) => tp (j + ap)) (fun (j : Nat) => vp (j + ap)) j))
 (fun (j : Nat) =>
 Prod.fst
 (S.at'
 (S.mkl (S.mdN np) fun (j : Nat) =>
 S.mdR np (fun (j : Nat) => tp (j + ap)) (fun (j : Nat) => vp (j + ap)) j)
 j))
 (fun (j : Nat) =>
 Prod.fst
 (Prod.snd
 (S.at'
 (S.mkl (S.mdN np) fun (j : Nat) =>
 S.mdR np (fun (j : Nat) => tp (j + ap)) (fun (j : Nat) => vp (j + ap)) j)
 j)))
 (fun (j : Nat) =>
 Prod.snd
 (Prod.snd
 (S.at'
 (S.mkl (S.mdN np) fun (j : Nat) =>
 S.mdR np (fun (j : Nat) => tp (j + ap)) (fun (j : Nat) => vp (j + ap)) j)
 j)))
 (List.length (S.mkl (S.mdN np) fun (j : Nat) => S.mdB (0 : Int) j))
 (fun (j : Nat) => S.at' (S.mkl (S.mdN np) fun (j : Nat) => S.mdB (0 : Int) j) j)
 (List.length (S.mkl nl fun (j : Nat) => S.inp (tl (j + al)))) fun (j : Nat) =>
 S.at' (S.mkl nl fun (j : Nat) => S.inp (tl (j + al))) j) !=
 (0 : Int))
 then (some (.inr (false)))
 else (bif (Prod.fst
 (S.histS
 (List.length
 (S.mkl (S.mdN np) fun (j : Nat) =>
 S.mdR np (fun (j : Nat) => tp (j + ap)) (fun (j : Nat) => vp (j + ap)) j))
 (fun (j : Nat) =>
 Prod.fst
 (S.at'
 (S.mkl (S.mdN np) fun (j : Nat) =>
 S.mdR np (fun (j : Nat) => tp (j + ap)) (fun (j : Nat) => vp (j + ap)) j)
 j))
 (fun (j : Nat) =>
 Prod.fst
 (Prod.snd
 (S.at'
 (S.mkl (S.mdN np) fun (j : Nat) =>
 S.mdR np (fun (j : Nat) => tp (j + ap)) (fun (j : Nat) => vp (j + ap)) j)
 j)))
 (fun (j : Nat) =>
 Prod.snd
 (Prod.snd
 (S.at'
 (S.mkl (S.mdN np) fun (j : Nat) =>
 S.mdR np (fun (j : Nat) => tp (j + ap)) (fun (j : Nat) => vp (j + ap)) j)
 j)))
 (List.length (S.mkl (S.mdN np) fun (j : Nat) => S.mdB (4095 : Int) j))
 (fun (j : Nat) => S.at' (S.mkl (S.mdN np) fun (j : Nat) => S.mdB (4095 : Int) j) j)
 (List.length (S.mkl nl fun (j : Nat) => S.inp (tl (j + al)))) fun (j : Nat) =>
 S.at' (S.mkl nl fun (j : Nat) => S.inp (tl (j + al))) j) !=
 (0 : Int))
 then (some (.inr (false)))
 else (bif (decide
 (0 +
 List.length
 (Prod.fst
 (Prod.snd
 (S.histS
 (List.length
 (S.mkl (S.mdN np) fun (j : Nat) =>
 S.mdR np (fun (j : Nat) => tp (j + ap)) (fun (j : Nat) => vp (j + ap)) j))
 (fun (j : Nat) =>
 Prod.fst
 (S.at'
 (S.mkl (S.mdN np) fun (j : Nat) =>
 S.mdR np (fun (j : Nat) => tp (j + ap)) (fun (j : Nat) => vp (j + ap)) j)
 j))
 (fun (j : Nat) =>
 Prod.fst
 (Prod.snd
 (S.at'
 (S.mkl (S.mdN np) fun (j : Nat) =>
 S.mdR np (fun (j : Nat) => tp (j + ap)) (fun (j : Nat) => vp (j + ap)) j)
 j)))
 (fun (j : Nat) =>
 Prod.snd
 (Prod.snd
 (S.at'
 (S.mkl (S.mdN np) fun (j : Nat) =>
 S.mdR np (fun (j : Nat) => tp (j + ap)) (fun (j : Nat) => vp (j + ap)) j)
 j)))
 (List.length (S.mkl (S.mdN np) fun (j : Nat) => S.mdB (0 : Int) j))
 (fun (j : Nat) => S.at' (S.mkl (S.mdN np) fun (j : Nat) => S.mdB (0 : Int) j) j)
 (List.length (S.mkl nl fun (j : Nat) => S.inp (tl (j + al)))) fun (j : Nat) =>
 S.at' (S.mkl nl fun (j : Nat) => S.inp (tl (j + al))) j))) ≤
 List.length
 (Prod.fst
 (Prod.snd
 (S.histS
 (List.length
 (S.mkl (S.mdN np) fun (j : Nat) =>
 S.mdR np (fun (j : Nat) => tp (j + ap)) (fun (j : Nat) => vp (j + ap)) j))
 (fun (j : Nat) =>
 Prod.fst
 (S.at'
 (S.mkl (S.mdN np) fun (j : Nat) =>
 S.mdR np (fun (j : Nat) => tp (j + ap)) (fun (j : Nat) => vp (j + ap)) j)
 j))
 (fun (j : Nat) =>
 Prod.fst
 (Prod.snd
 (S.at'
 (S.mkl (S.mdN np) fun (j : Nat) =>
 S.mdR np (fun (j : Nat) => tp (j + ap)) (fun (j : Nat) => vp (j + ap)) j)
 j)))
 (fun (j : Nat) =>
 Prod.snd
 (Prod.snd
 (S.at'
 (S.mkl (S.mdN np) fun (j : Nat) =>
 S.mdR np (fun (j : Nat) => tp (j + ap)) (fun (j : Nat) => vp (j + ap)) j)
 j)))
 (List.length (S.mkl (S.mdN np) fun (j : Nat) => S.mdB (0 : Int) j))
 (fun (j : Nat) => S.at' (S.mkl (S.mdN np) fun (j : Nat) => S.mdB (0 : Int) j) j)
 (List.length (S.mkl nl fun (j : Nat) => S.inp (tl (j + al)))) fun (j : Nat) =>
 S.at' (S.mkl nl fun (j : Nat) => S.inp (tl (j + al))) j))) ∧
 List.length
 (Prod.fst
 (Prod.snd
 (S.histS
 (List.length
 (S.mkl (S.mdN np) fun (j : Nat) =>
 S.mdR np (fun (j : Nat) => tp (j + ap)) (fun (j : Nat) => vp (j + ap)) j))
 (fun (j : Nat) =>
 Prod.fst
 (S.at'
 (S.mkl (S.mdN np) fun (j : Nat) =>
 S.mdR np (fun (j : Nat) => tp (j + ap)) (fun (j : Nat) => vp (j + ap)) j)
 j))
 (fun (j : Nat) =>
 Prod.fst
 (Prod.snd
 (S.at'
 (S.mkl (S.mdN np) fun (j : Nat) =>
 S.mdR np (fun (j : Nat) => tp (j + ap)) (fun (j : Nat) => vp (j + ap)) j)
 j)))
 (fun (j : Nat) =>
 Prod.snd
 (Prod.snd
 (S.at'
 (S.mkl (S.mdN np) fun (j : Nat) =>
 S.mdR np (fun (j : Nat) => tp (j + ap)) (fun (j : Nat) => vp (j + ap)) j)
 j)))
 (List.length (S.mkl (S.mdN np) fun (j : Nat) => S.mdB (0 : Int) j))
 (fun (j : Nat) => S.at' (S.mkl (S.mdN np) fun (j : Nat) => S.mdB (0 : Int) j) j)
 (List.length (S.mkl nl fun (j : Nat) => S.inp (tl (j + al)))) fun (j : Nat) =>
 S.at' (S.mkl nl fun (j : Nat) => S.inp (tl (j + al))) j))) ≤
 1000000 ∧
 0 +
 List.length
 (Prod.snd
 (Prod.snd
 (S.histS
 (List.length
 (S.mkl (S.mdN np) fun (j : Nat) =>
 S.mdR np (fun (j : Nat) => tp (j + ap)) (fun (j : Nat) => vp (j + ap)) j))
 (fun (j : Nat) =>
 Prod.fst
 (S.at'
 (S.mkl (S.mdN np) fun (j : Nat) =>
 S.mdR np (fun (j : Nat) => tp (j + ap)) (fun (j : Nat) => vp (j + ap)) j)
 j))
 (fun (j : Nat) =>
 Prod.fst
 (Prod.snd
 (S.at'
 (S.mkl (S.mdN np) fun (j : Nat) =>
 S.mdR np (fun (j : Nat) => tp (j + ap)) (fun (j : Nat) => vp (j + ap)) j)
 j)))
 (fun (j : Nat) =>
 Prod.snd
 (Prod.snd
 (S.at'
 (S.mkl (S.mdN np) fun (j : Nat) =>
 S.mdR np (fun (j : Nat) => tp (j + ap)) (fun (j : Nat) => vp (j + ap)) j)
 j)))
 (List.length (S.mkl (S.mdN np) fun (j : Nat) => S.mdB (0 : Int) j))
 (fun (j : Nat) =>
 S.at' (S.mkl (S.mdN np) fun (j : Nat) => S.mdB (0 : Int) j) j)
 (List.length (S.mkl nl fun (j : Nat) => S.inp (tl (j + al)))) fun (j : Nat) =>
 S.at' (S.mkl nl fun (j : Nat) => S.inp (tl (j + al))) j))) ≤
 List.length
 (Prod.snd
 (Prod.snd
 (S.histS
 (List.length
 (S.mkl (S.mdN np) fun (j : Nat) =>
 S.mdR np (fun (j : Nat) => tp (j + ap)) (fun (j : Nat) => vp (j + ap)) j))
 (fun (j : Nat) =>
 Prod.fst
 (S.at'
 (S.mkl (S.mdN np) fun (j : Nat) =>
 S.mdR np (fun (j : Nat) => tp (j + ap)) (fun (j : Nat) => vp (j + ap)) j)
 j))
 (fun (j : Nat) =>
 Prod.fst
 (Prod.snd
 (S.at'
 (S.mkl (S.mdN np) fun (j : Nat) =>
 S.mdR np (fun (j : Nat) => tp (j + ap)) (fun (j : Nat) => vp (j + ap)) j)
 j)))
 (fun (j : Nat) =>
 Prod.snd
 (Prod.snd
 (S.at'
 (S.mkl (S.mdN np) fun (j : Nat) =>
 S.mdR np (fun (j : Nat) => tp (j + ap)) (fun (j : Nat) => vp (j + ap)) j)
 j)))
 (List.length (S.mkl (S.mdN np) fun (j : Nat) => S.mdB (0 : Int) j))
 (fun (j : Nat) =>
 S.at' (S.mkl (S.mdN np) fun (j : Nat) => S.mdB (0 : Int) j) j)
 (List.length (S.mkl nl fun (j : Nat) => S.inp (tl (j + al)))) fun (j : Nat) =>
 S.at' (S.mkl nl fun (j : Nat) => S.inp (tl (j + al))) j))) ∧
 List.length
 (Prod.snd
 (Prod.snd
 (S.histS
 (List.length
 (S.mkl (S.mdN np) fun (j : Nat) =>
 S.mdR np (fun (j : Nat) => tp (j + ap)) (fun (j : Nat) => vp (j + ap)) j))
 (fun (j : Nat) =>
 Prod.fst
 (S.at'
 (S.mkl (S.mdN np) fun (j : Nat) =>
 S.mdR np (fun (j : Nat) => tp (j + ap)) (fun (j : Nat) => vp (j + ap)) j)
 j))
 (fun (j : Nat) =>
 Prod.fst
 (Prod.snd
 (S.at'
 (S.mkl (S.mdN np) fun (j : Nat) =>
 S.mdR np (fun (j : Nat) => tp (j + ap)) (fun (j : Nat) => vp (j + ap)) j)
 j)))
 (fun (j : Nat) =>
 Prod.snd
 (Prod.snd
 (S.at'
 (S.mkl (S.mdN np) fun (j : Nat) =>
 S.mdR np (fun (j : Nat) => tp (j + ap)) (fun (j : Nat) => vp (j + ap)) j)
 j)))
 (List.length (S.mkl (S.mdN np) fun (j : Nat) => S.mdB (0 : Int) j))
 (fun (j : Nat) =>
 S.at' (S.mkl (S.mdN np) fun (j : Nat) => S.mdB (0 : Int) j) j)
 (List.length (S.mkl nl fun (j : Nat) => S.inp (tl (j + al)))) fun (j : Nat) =>
 S.at' (S.mkl nl fun (j : Nat) => S.inp (tl (j + al))) j))) ≤
 1000000 ∧
 0 +
 List.length
 (Prod.fst
 (Prod.snd
 (S.histS
 (List.length
 (S.mkl (S.mdN np) fun (j : Nat) =>
 S.mdR np (fun (j : Nat) => tp (j + ap)) (fun (j : Nat) => vp (j + ap)) j))
 (fun (j : Nat) =>
 Prod.fst
 (S.at'
 (S.mkl (S.mdN np) fun (j : Nat) =>
 S.mdR np (fun (j : Nat) => tp (j + ap)) (fun (j : Nat) => vp (j + ap)) j)
 j))
 (fun (j : Nat) =>
 Prod.fst
 (Prod.snd
 (S.at'
 (S.mkl (S.mdN np) fun (j : Nat) =>
 S.mdR np (fun (j : Nat) => tp (j + ap)) (fun (j : Nat) => vp (j + ap)) j)
 j)))
 (fun (j : Nat) =>
 Prod.snd
 (Prod.snd
 (S.at'
 (S.mkl (S.mdN np) fun (j : Nat) =>
 S.mdR np (fun (j : Nat) => tp (j + ap)) (fun (j : Nat) => vp (j + ap)) j)
 j)))
 (List.length (S.mkl (S.mdN np) fun (j : Nat) => S.mdB (4095 : Int) j))
 (fun (j : Nat) =>
 S.at' (S.mkl (S.mdN np) fun (j : Nat) => S.mdB (4095 : Int) j) j)
 (List.length (S.mkl nl fun (j : Nat) => S.inp (tl (j + al)))) fun (j : Nat) =>
 S.at' (S.mkl nl fun (j : Nat) => S.inp (tl (j + al))) j))) ≤
 List.length
 (Prod.fst
 (Prod.snd
 (S.histS
 (List.length
 (S.mkl (S.mdN np) fun (j : Nat) =>
 S.mdR np (fun (j : Nat) => tp (j + ap)) (fun (j : Nat) => vp (j + ap)) j))
 (fun (j : Nat) =>
 Prod.fst
 (S.at'
 (S.mkl (S.mdN np) fun (j : Nat) =>
 S.mdR np (fun (j : Nat) => tp (j + ap)) (fun (j : Nat) => vp (j + ap)) j)
 j))
 (fun (j : Nat) =>
 Prod.fst
 (Prod.snd
 (S.at'
 (S.mkl (S.mdN np) fun (j : Nat) =>
 S.mdR np (fun (j : Nat) => tp (j + ap)) (fun (j : Nat) => vp (j + ap)) j)
 j)))
 (fun (j : Nat) =>
 Prod.snd
 (Prod.snd
 (S.at'
 (S.mkl (S.mdN np) fun (j : Nat) =>
 S.mdR np (fun (j : Nat) => tp (j + ap)) (fun (j : Nat) => vp (j + ap)) j)
 j)))
 (List.length (S.mkl (S.mdN np) fun (j : Nat) => S.mdB (4095 : Int) j))
 (fun (j : Nat) =>
 S.at' (S.mkl (S.mdN np) fun (j : Nat) => S.mdB (4095 : Int) j) j)
 (List.length (S.mkl nl fun (j : Nat) => S.inp (tl (j + al)))) fun (j : Nat) =>
 S.at' (S.mkl nl fun (j : Nat) => S.inp (tl (j + al))) j))) ∧
 List.length
 (Prod.fst
 (Prod.snd
 (S.histS
 (List.length
 (S.mkl (S.mdN np) fun (j : Nat) =>
 S.mdR np (fun (j : Nat) => tp (j + ap)) (fun (j : Nat) => vp (j + ap)) j))
 (fun (j : Nat) =>
 Prod.fst
 (S.at'
 (S.mkl (S.mdN np) fun (j : Nat) =>
 S.mdR np (fun (j : Nat) => tp (j + ap)) (fun (j : Nat) => vp (j + ap)) j)
 j))
 (fun (j : Nat) =>
 Prod.fst
 (Prod.snd
 (S.at'
 (S.mkl (S.mdN np) fun (j : Nat) =>
 S.mdR np (fun (j : Nat) => tp (j + ap)) (fun (j : Nat) => vp (j + ap)) j)
 j)))
 (fun (j : Nat) =>
 Prod.snd
 (Prod.snd
 (S.at'
 (S.mkl (S.mdN np) fun (j : Nat) =>
 S.mdR np (fun (j : Nat) => tp (j + ap)) (fun (j : Nat) => vp (j + ap)) j)
 j)))
 (List.length (S.mkl (S.mdN np) fun (j : Nat) => S.mdB (4095 : Int) j))
 (fun (j : Nat) =>
 S.at' (S.mkl (S.mdN np) fun (j : Nat) => S.mdB (4095 : Int) j) j)
 (List.length (S.mkl nl fun (j : Nat) => S.inp (tl (j + al)))) fun (j : Nat) =>
 S.at' (S.mkl nl fun (j : Nat) => S.inp (tl (j + al))) j))) ≤
 1000000 ∧
 0 +
 List.length
 (Prod.snd
 (Prod.snd
 (S.histS
 (List.length
 (S.mkl (S.mdN np) fun (j : Nat) =>
 S.mdR np (fun (j : Nat) => tp (j + ap)) (fun (j : Nat) => vp (j + ap)) j))
 (fun (j : Nat) =>
 Prod.fst
 (S.at'
 (S.mkl (S.mdN np) fun (j : Nat) =>
 S.mdR np (fun (j : Nat) => tp (j + ap)) (fun (j : Nat) => vp (j + ap)) j)
 j))
 (fun (j : Nat) =>
 Prod.fst
 (Prod.snd
 (S.at'
 (S.mkl (S.mdN np) fun (j : Nat) =>
 S.mdR np (fun (j : Nat) => tp (j + ap)) (fun (j : Nat) => vp (j + ap)) j)
 j)))
 (fun (j : Nat) =>
 Prod.snd
 (Prod.snd
 (S.at'
 (S.mkl (S.mdN np) fun (j : Nat) =>
 S.mdR np (fun (j : Nat) => tp (j + ap)) (fun (j : Nat) => vp (j + ap)) j)
 j)))
 (List.length (S.mkl (S.mdN np) fun (j : Nat) => S.mdB (4095 : Int) j))
 (fun (j : Nat) =>
 S.at' (S.mkl (S.mdN np) fun (j : Nat) => S.mdB (4095 : Int) j) j)
 (List.length (S.mkl nl fun (j : Nat) => S.inp (tl (j + al)))) fun (j : Nat) =>
 S.at' (S.mkl nl fun (j : Nat) => S.inp (tl (j + al))) j))) ≤
 List.length
 (Prod.snd
 (Prod.snd
 (S.histS
 (List.length
 (S.mkl (S.mdN np) fun (j : Nat) =>
 S.mdR np (fun (j : Nat) => tp (j + ap)) (fun (j : Nat) => vp (j + ap)) j))
 (fun (j : Nat) =>
 Prod.fst
 (S.at'
 (S.mkl (S.mdN np) fun (j : Nat) =>
 S.mdR np (fun (j : Nat) => tp (j + ap)) (fun (j : Nat) => vp (j + ap)) j)
 j))
 (fun (j : Nat) =>
 Prod.fst
 (Prod.snd
 (S.at'
 (S.mkl (S.mdN np) fun (j : Nat) =>
 S.mdR np (fun (j : Nat) => tp (j + ap)) (fun (j : Nat) => vp (j + ap)) j)
 j)))
 (fun (j : Nat) =>
 Prod.snd
 (Prod.snd
 (S.at'
 (S.mkl (S.mdN np) fun (j : Nat) =>
 S.mdR np (fun (j : Nat) => tp (j + ap)) (fun (j : Nat) => vp (j + ap)) j)
 j)))
 (List.length (S.mkl (S.mdN np) fun (j : Nat) => S.mdB (4095 : Int) j))
 (fun (j : Nat) =>
 S.at' (S.mkl (S.mdN np) fun (j : Nat) => S.mdB (4095 : Int) j) j)
 (List.length (S.mkl nl fun (j : Nat) => S.inp (tl (j + al)))) fun (j : Nat) =>
 S.at' (S.mkl nl fun (j : Nat) => S.inp (tl (j + al))) j))) ∧
 List.length
 (Prod.snd
 (Prod.snd
 (S.histS
 (List.length
 (S.mkl (S.mdN np) fun (j : Nat) =>
 S.mdR np (fun (j : Nat) => tp (j + ap)) (fun (j : Nat) => vp (j + ap)) j))
 (fun (j : Nat) =>
 Prod.fst
 (S.at'
 (S.mkl (S.mdN np) fun (j : Nat) =>
 S.mdR np (fun (j : Nat) => tp (j + ap)) (fun (j : Nat) => vp (j + ap)) j)
 j))
 (fun (j : Nat) =>
 Prod.fst
 (Prod.snd
 (S.at'
 (S.mkl (S.mdN np) fun (j : Nat) =>
 S.mdR np (fun (j : Nat) => tp (j + ap)) (fun (j : Nat) => vp (j + ap)) j)
 j)))
 (fun (j : Nat) =>
 Prod.snd
 (Prod.snd
 (S.at'
 (S.mkl (S.mdN np) fun (j : Nat) =>
 S.mdR np (fun (j : Nat) => tp (j + ap)) (fun (j : Nat) => vp (j + ap)) j)
 j)))
 (List.length (S.mkl (S.mdN np) fun (j : Nat) => S.mdB (4095 : Int) j))
 (fun (j : Nat) =>
 S.at' (S.mkl (S.mdN np) fun (j : Nat) => S.mdB (4095 : Int) j) j)
 (List.length (S.mkl nl fun (j : Nat) => S.inp (tl (j + al)))) fun (j : Nat) =>
 S.at' (S.mkl nl fun (j : Nat) => S.inp (tl (j + al))) j))) ≤
 1000000))
 then (bif (decide
 ((S.mkl
 (List.length
 (Prod.fst
 (Prod.snd
 (S.histS
 (List.length
 (S.mkl (S.mdN np) fun (j : Nat) =>
 S.mdR np (fun (j : Nat) => tp (j + ap)) (fun (j : Nat) => vp (j + ap)) j))
 (fun (j : Nat) =>
 Prod.fst
 (S.at'
 (S.mkl (S.mdN np) fun (j : Nat) =>
 S.mdR np (fun (j : Nat) => tp (j + ap)) (fun (j : Nat) => vp (j + ap)) j)
 j))
 (fun (j : Nat) =>
 Prod.fst
 (Prod.snd
 (S.at'
 (S.mkl (S.mdN np) fun (j : Nat) =>
 S.mdR np (fun (j : Nat) => tp (j + ap)) (fun (j : Nat) => vp (j + ap)) j)
 j)))
 (fun (j : Nat) =>
 Prod.snd
 (Prod.snd
 (S.at'
 (S.mkl (S.mdN np) fun (j : Nat) =>
 S.mdR np (fun (j : Nat) => tp (j + ap)) (fun (j : Nat) => vp (j + ap)) j)
 j)))
 (List.length (S.mkl (S.mdN np) fun (j : Nat) => S.mdB (0 : Int) j))
 (fun (j : Nat) => S.at' (S.mkl (S.mdN np) fun (j : Nat) => S.mdB (0 : Int) j) j)
 (List.length (S.mkl nl fun (j : Nat) => S.inp (tl (j + al)))) fun (j : Nat) =>
 S.at' (S.mkl nl fun (j : Nat) => S.inp (tl (j + al))) j))))
 fun (j : Nat) =>
 (Prod.fst
 (S.at'
 (Prod.fst
 (Prod.snd
 (S.histS
 (List.length
 (S.mkl (S.mdN np) fun (j : Nat) =>
 S.mdR np (fun (j : Nat) => tp (j + ap)) (fun (j : Nat) => vp (j + ap)) j))
 (fun (j : Nat) =>
 Prod.fst
 (S.at'
 (S.mkl (S.mdN np) fun (j : Nat) =>
 S.mdR np (fun (j : Nat) => tp (j + ap)) (fun (j : Nat) => vp (j + ap)) j)
 j))
 (fun (j : Nat) =>
 Prod.fst
 (Prod.snd
 (S.at'
 (S.mkl (S.mdN np) fun (j : Nat) =>
 S.mdR np (fun (j : Nat) => tp (j + ap)) (fun (j : Nat) => vp (j + ap)) j)
 j)))
 (fun (j : Nat) =>
 Prod.snd
 (Prod.snd
 (S.at'
 (S.mkl (S.mdN np) fun (j : Nat) =>
 S.mdR np (fun (j : Nat) => tp (j + ap)) (fun (j : Nat) => vp (j + ap)) j)
 j)))
 (List.length (S.mkl (S.mdN np) fun (j : Nat) => S.mdB (0 : Int) j))
 (fun (j : Nat) =>
 S.at' (S.mkl (S.mdN np) fun (j : Nat) => S.mdB (0 : Int) j) j)
 (List.length (S.mkl nl fun (j : Nat) => S.inp (tl (j + al)))) fun (j : Nat) =>
 S.at' (S.mkl nl fun (j : Nat) => S.inp (tl (j + al))) j)))
 j),
 Prod.fst
 (Prod.snd
 (S.at'
 (Prod.fst
 (Prod.snd
 (S.histS
 (List.length
 (S.mkl (S.mdN np) fun (j : Nat) =>
 S.mdR np (fun (j : Nat) => tp (j + ap)) (fun (j : Nat) => vp (j + ap)) j))
 (fun (j : Nat) =>
 Prod.fst
 (S.at'
 (S.mkl (S.mdN np) fun (j : Nat) =>
 S.mdR np (fun (j : Nat) => tp (j + ap)) (fun (j : Nat) => vp (j + ap)) j)
 j))
 (fun (j : Nat) =>
 Prod.fst
 (Prod.snd
 (S.at'
 (S.mkl (S.mdN np) fun (j : Nat) =>
 S.mdR np (fun (j : Nat) => tp (j + ap)) (fun (j : Nat) => vp (j + ap)) j)
 j)))
 (fun (j : Nat) =>
 Prod.snd
 (Prod.snd
 (S.at'
 (S.mkl (S.mdN np) fun (j : Nat) =>
 S.mdR np (fun (j : Nat) => tp (j + ap)) (fun (j : Nat) => vp (j + ap)) j)
 j)))
 (List.length (S.mkl (S.mdN np) fun (j : Nat) => S.mdB (0 : Int) j))
 (fun (j : Nat) =>
 S.at' (S.mkl (S.mdN np) fun (j : Nat) => S.mdB (0 : Int) j) j)
 (List.length (S.mkl nl fun (j : Nat) => S.inp (tl (j + al)))) fun (j : Nat) =>
 S.at' (S.mkl nl fun (j : Nat) => S.inp (tl (j + al))) j)))
 j)),
 Prod.snd
 (Prod.snd
 (S.at'
 (Prod.fst
 (Prod.snd
 (S.histS
 (List.length
 (S.mkl (S.mdN np) fun (j : Nat) =>
 S.mdR np (fun (j : Nat) => tp (j + ap)) (fun (j : Nat) => vp (j + ap)) j))
 (fun (j : Nat) =>
 Prod.fst
 (S.at'
 (S.mkl (S.mdN np) fun (j : Nat) =>
 S.mdR np (fun (j : Nat) => tp (j + ap)) (fun (j : Nat) => vp (j + ap)) j)
 j))
 (fun (j : Nat) =>
 Prod.fst
 (Prod.snd
 (S.at'
 (S.mkl (S.mdN np) fun (j : Nat) =>
 S.mdR np (fun (j : Nat) => tp (j + ap)) (fun (j : Nat) => vp (j + ap)) j)
 j)))
 (fun (j : Nat) =>
 Prod.snd
 (Prod.snd
 (S.at'
 (S.mkl (S.mdN np) fun (j : Nat) =>
 S.mdR np (fun (j : Nat) => tp (j + ap)) (fun (j : Nat) => vp (j + ap)) j)
 j)))
 (List.length (S.mkl (S.mdN np) fun (j : Nat) => S.mdB (0 : Int) j))
 (fun (j : Nat) =>
 S.at' (S.mkl (S.mdN np) fun (j : Nat) => S.mdB (0 : Int) j) j)
 (List.length (S.mkl nl fun (j : Nat) => S.inp (tl (j + al)))) fun (j : Nat) =>
 S.at' (S.mkl nl fun (j : Nat) => S.inp (tl (j + al))) j)))
 j)))) =
 S.mkl
 (List.length
 (Prod.fst
 (Prod.snd
 (S.histS
 (List.length
 (S.mkl (S.mdN np) fun (j : Nat) =>
 S.mdR np (fun (j : Nat) => tp (j + ap)) (fun (j : Nat) => vp (j + ap)) j))
 (fun (j : Nat) =>
 Prod.fst
 (S.at'
 (S.mkl (S.mdN np) fun (j : Nat) =>
 S.mdR np (fun (j : Nat) => tp (j + ap)) (fun (j : Nat) => vp (j + ap)) j)
 j))
 (fun (j : Nat) =>
 Prod.fst
 (Prod.snd
 (S.at'
 (S.mkl (S.mdN np) fun (j : Nat) =>
 S.mdR np (fun (j : Nat) => tp (j + ap)) (fun (j : Nat) => vp (j + ap)) j)
 j)))
 (fun (j : Nat) =>
 Prod.snd
 (Prod.snd
 (S.at'
 (S.mkl (S.mdN np) fun (j : Nat) =>
 S.mdR np (fun (j : Nat) => tp (j + ap)) (fun (j : Nat) => vp (j + ap)) j)
 j)))
 (List.length (S.mkl (S.mdN np) fun (j : Nat) => S.mdB (4095 : Int) j))
 (fun (j : Nat) =>
 S.at' (S.mkl (S.mdN np) fun (j : Nat) => S.mdB (4095 : Int) j) j)
 (List.length (S.mkl nl fun (j : Nat) => S.inp (tl (j + al)))) fun (j : Nat) =>
 S.at' (S.mkl nl fun (j : Nat) => S.inp (tl (j + al))) j))))
 fun (j : Nat) =>
 (Prod.fst
 (S.at'
 (Prod.fst
 (Prod.snd
 (S.histS
 (List.length
 (S.mkl (S.mdN np) fun (j : Nat) =>
 S.mdR np (fun (j : Nat) => tp (j + ap)) (fun (j : Nat) => vp (j + ap)) j))
 (fun (j : Nat) =>
 Prod.fst
 (S.at'
 (S.mkl (S.mdN np) fun (j : Nat) =>
 S.mdR np (fun (j : Nat) => tp (j + ap)) (fun (j : Nat) => vp (j + ap)) j)
 j))
 (fun (j : Nat) =>
 Prod.fst
 (Prod.snd
 (S.at'
 (S.mkl (S.mdN np) fun (j : Nat) =>
 S.mdR np (fun (j : Nat) => tp (j + ap)) (fun (j : Nat) => vp (j + ap)) j)
 j)))
 (fun (j : Nat) =>
 Prod.snd
 (Prod.snd
 (S.at'
 (S.mkl (S.mdN np) fun (j : Nat) =>
 S.mdR np (fun (j : Nat) => tp (j + ap)) (fun (j : Nat) => vp (j + ap)) j)
 j)))
 (List.length (S.mkl (S.mdN np) fun (j : Nat) => S.mdB (4095 : Int) j))
 (fun (j : Nat) =>
 S.at' (S.mkl (S.mdN np) fun (j : Nat) => S.mdB (4095 : Int) j) j)
 (List.length (S.mkl nl fun (j : Nat) => S.inp (tl (j + al)))) fun (j : Nat) =>
 S.at' (S.mkl nl fun (j : Nat) => S.inp (tl (j + al))) j)))
 j),
 Prod.fst
 (Prod.snd
 (S.at'
 (Prod.fst
 (Prod.snd
 (S.histS
 (List.length
 (S.mkl (S.mdN np) fun (j : Nat) =>
 S.mdR np (fun (j : Nat) => tp (j + ap)) (fun (j : Nat) => vp (j + ap)) j))
 (fun (j : Nat) =>
 Prod.fst
 (S.at'
 (S.mkl (S.mdN np) fun (j : Nat) =>
 S.mdR np (fun (j : Nat) => tp (j + ap)) (fun (j : Nat) => vp (j + ap)) j)
 j))
 (fun (j : Nat) =>
 Prod.fst
 (Prod.snd
 (S.at'
 (S.mkl (S.mdN np) fun (j : Nat) =>
 S.mdR np (fun (j : Nat) => tp (j + ap)) (fun (j : Nat) => vp (j + ap)) j)
 j)))
 (fun (j : Nat) =>
 Prod.snd
 (Prod.snd
 (S.at'
 (S.mkl (S.mdN np) fun (j : Nat) =>
 S.mdR np (fun (j : Nat) => tp (j + ap)) (fun (j : Nat) => vp (j + ap)) j)
 j)))
 (List.length (S.mkl (S.mdN np) fun (j : Nat) => S.mdB (4095 : Int) j))
 (fun (j : Nat) =>
 S.at' (S.mkl (S.mdN np) fun (j : Nat) => S.mdB (4095 : Int) j) j)
 (List.length (S.mkl nl fun (j : Nat) => S.inp (tl (j + al)))) fun (j : Nat) =>
 S.at' (S.mkl nl fun (j : Nat) => S.inp (tl (j + al))) j)))
 j)),
 Prod.snd
 (Prod.snd
 (S.at'
 (Prod.fst
 (Prod.snd
 (S.histS
 (List.length
 (S.mkl (S.mdN np) fun (j : Nat) =>
 S.mdR np (fun (j : Nat) => tp (j + ap)) (fun (j : Nat) => vp (j + ap)) j))
 (fun (j : Nat) =>
 Prod.fst
 (S.at'
 (S.mkl (S.mdN np) fun (j : Nat) =>
 S.mdR np (fun (j : Nat) => tp (j + ap)) (fun (j : Nat) => vp (j + ap)) j)
 j))
 (fun (j : Nat) =>
 Prod.fst
 (Prod.snd
 (S.at'
 (S.mkl (S.mdN np) fun (j : Nat) =>
 S.mdR np (fun (j : Nat) => tp (j + ap)) (fun (j : Nat) => vp (j + ap)) j)
 j)))
 (fun (j : Nat) =>
 Prod.snd
 (Prod.snd
 (S.at'
 (S.mkl (S.mdN np) fun (j : Nat) =>
 S.mdR np (fun (j : Nat) => tp (j + ap)) (fun (j : Nat) => vp (j + ap)) j)
 j)))
 (List.length (S.mkl (S.mdN np) fun (j : Nat) => S.mdB (4095 : Int) j))
 (fun (j : Nat) =>
 S.at' (S.mkl (S.mdN np) fun (j : Nat) => S.mdB (4095 : Int) j) j)
 (List.length (S.mkl nl fun (j : Nat) => S.inp (tl (j + al)))) fun (j : Nat) =>
 S.at' (S.mkl nl fun (j : Nat) => S.inp (tl (j + al))) j)))
 j)))) &&
 decide
 ((S.mkl
 (List.length
 (Prod.snd
 (Prod.snd
 (S.histS
 (List.length
 (S.mkl (S.mdN np) fun (j : Nat) =>
 S.mdR np (fun (j : Nat) => tp (j + ap)) (fun (j : Nat) => vp (j + ap)) j))
 (fun (j : Nat) =>
 Prod.fst
 (S.at'
 (S.mkl (S.mdN np) fun (j : Nat) =>
 S.mdR np (fun (j : Nat) => tp (j + ap)) (fun (j : Nat) => vp (j + ap)) j)
 j))
 (fun (j : Nat) =>
 Prod.fst
 (Prod.snd
 (S.at'
 (S.mkl (S.mdN np) fun (j : Nat) =>
 S.mdR np (fun (j : Nat) => tp (j + ap)) (fun (j : Nat) => vp (j + ap)) j)
 j)))
 (fun (j : Nat) =>
 Prod.snd
 (Prod.snd
 (S.at'
 (S.mkl (S.mdN np) fun (j : Nat) =>
 S.mdR np (fun (j : Nat) => tp (j + ap)) (fun (j : Nat) => vp (j + ap)) j)
 j)))
 (List.length (S.mkl (S.mdN np) fun (j : Nat) => S.mdB (0 : Int) j))
 (fun (j : Nat) => S.at' (S.mkl (S.mdN np) fun (j : Nat) => S.mdB (0 : Int) j) j)
 (List.length (S.mkl nl fun (j : Nat) => S.inp (tl (j + al)))) fun (j : Nat) =>
 S.at' (S.mkl nl fun (j : Nat) => S.inp (tl (j + al))) j))))
 fun (j : Nat) =>
 S.at'
 (Prod.snd
 (Prod.snd
 (S.histS
 (List.length
 (S.mkl (S.mdN np) fun (j : Nat) =>
 S.mdR np (fun (j : Nat) => tp (j + ap)) (fun (j : Nat) => vp (j + ap)) j))
 (fun (j : Nat) =>
 Prod.fst
 (S.at'
 (S.mkl (S.mdN np) fun (j : Nat) =>
 S.mdR np (fun (j : Nat) => tp (j + ap)) (fun (j : Nat) => vp (j + ap)) j)
 j))
 (fun (j : Nat) =>
 Prod.fst
 (Prod.snd
 (S.at'
 (S.mkl (S.mdN np) fun (j : Nat) =>
 S.mdR np (fun (j : Nat) => tp (j + ap)) (fun (j : Nat) => vp (j + ap)) j)
 j)))
 (fun (j : Nat) =>
 Prod.snd
 (Prod.snd
 (S.at'
 (S.mkl (S.mdN np) fun (j : Nat) =>
 S.mdR np (fun (j : Nat) => tp (j + ap)) (fun (j : Nat) => vp (j + ap)) j)
 j)))
 (List.length (S.mkl (S.mdN np) fun (j : Nat) => S.mdB (0 : Int) j))
 (fun (j : Nat) => S.at' (S.mkl (S.mdN np) fun (j : Nat) => S.mdB (0 : Int) j) j)
 (List.length (S.mkl nl fun (j : Nat) => S.inp (tl (j + al)))) fun (j : Nat) =>
 S.at' (S.mkl nl fun (j : Nat) => S.inp (tl (j + al))) j)))
 j) =
 S.mkl
 (List.length
 (Prod.snd
 (Prod.snd
 (S.histS
 (List.length
 (S.mkl (S.mdN np) fun (j : Nat) =>
 S.mdR np (fun (j : Nat) => tp (j + ap)) (fun (j : Nat) => vp (j + ap)) j))
 (fun (j : Nat) =>
 Prod.fst
 (S.at'
 (S.mkl (S.mdN np) fun (j : Nat) =>
 S.mdR np (fun (j : Nat) => tp (j + ap)) (fun (j : Nat) => vp (j + ap)) j)
 j))
 (fun (j : Nat) =>
 Prod.fst
 (Prod.snd
 (S.at'
 (S.mkl (S.mdN np) fun (j : Nat) =>
 S.mdR np (fun (j : Nat) => tp (j + ap)) (fun (j : Nat) => vp (j + ap)) j)
 j)))
 (fun (j : Nat) =>
 Prod.snd
 (Prod.snd
 (S.at'
 (S.mkl (S.mdN np) fun (j : Nat) =>
 S.mdR np (fun (j : Nat) => tp (j + ap)) (fun (j : Nat) => vp (j + ap)) j)
 j)))
 (List.length (S.mkl (S.mdN np) fun (j : Nat) => S.mdB (4095 : Int) j))
 (fun (j : Nat) =>
 S.at' (S.mkl (S.mdN np) fun (j : Nat) => S.mdB (4095 : Int) j) j)
 (List.length (S.mkl nl fun (j : Nat) => S.inp (tl (j + al)))) fun (j : Nat) =>
 S.at' (S.mkl nl fun (j : Nat) => S.inp (tl (j + al))) j))))
 fun (j : Nat) =>
 S.at'
 (Prod.snd
 (Prod.snd
 (S.histS
 (List.length
 (S.mkl (S.mdN np) fun (j : Nat) =>
 S.mdR np (fun (j : Nat) => tp (j + ap)) (fun (j : Nat) => vp (j + ap)) j))
 (fun (j : Nat) =>
 Prod.fst
 (S.at'
 (S.mkl (S.mdN np) fun (j : Nat) =>
 S.mdR np (fun (j : Nat) => tp (j + ap)) (fun (j : Nat) => vp (j + ap)) j)
 j))
 (fun (j : Nat) =>
 Prod.fst
 (Prod.snd
 (S.at'
 (S.mkl (S.mdN np) fun (j : Nat) =>
 S.mdR np (fun (j : Nat) => tp (j + ap)) (fun (j : Nat) => vp (j + ap)) j)
 j)))
 (fun (j : Nat) =>
 Prod.snd
 (Prod.snd
 (S.at'
 (S.mkl (S.mdN np) fun (j : Nat) =>
 S.mdR np (fun (j : Nat) => tp (j + ap)) (fun (j : Nat) => vp (j + ap)) j)
 j)))
 (List.length (S.mkl (S.mdN np) fun (j : Nat) => S.mdB (4095 : Int) j))
 (fun (j : Nat) =>
 S.at' (S.mkl (S.mdN np) fun (j : Nat) => S.mdB (4095 : Int) j) j)
 (List.length (S.mkl nl fun (j : Nat) => S.inp (tl (j + al)))) fun (j : Nat) =>
 S.at' (S.mkl nl fun (j : Nat) => S.inp (tl (j + al))) j)))
 j))
 then (some (.inr (false)))
 else (some (.inr (true))))
 else (none)))))))
 else (none))
 else (none))
 else (none)))
 else (none))
 else (none))
 else (none)) : Option (St9 ⊕ Rt9)) = some x) : Te9 cond Kst Kret ap np mp tp vp o al nl ml tl ones := by
  unfold Te9
  exact cond_yes rfl (cond_yes rfl (bif_split h
   (fun c0 h => cond_yes rfl (cond_yes rfl (ret_at hR _ h (fun n => n) rfl rfl rfl (rn_bool_tf rfl) rfl (entl_bor (use_lo rfl) rfl rfl (entl_bor (use_lo rfl) rfl rfl entl_nil)))))
   (fun c0 h => bif_split h
   (fun c1 h => bif_split h
   (fun c2 h => cond_yes c2 (bif_split h
   (fun c3 h => bif_split h
   (fun c4 h => cond_yes c3 (bif_split h
   (fun c5 h => cond_yes c2 (bif_split h
   (fun c6 h => cond_yes c2 (bif_split h
   (fun c7 h => bif_split h
   (fun c8 h => ret_at hR _ h (fun n => n) rfl rfl rfl (rn_bool_tf rfl) rfl (entl_bor (use_lo rfl) rfl rfl (entl_bor (use_lo rfl) rfl rfl entl_nil)))
   (fun c8 h => bif_split h
   (fun c9 h => ret_at hR _ h (fun n => n) rfl rfl rfl (rn_bool_tf rfl) rfl (entl_bor (use_lo rfl) rfl rfl (entl_bor (use_lo rfl) rfl rfl entl_nil)))
   (fun c9 h => bif_split h
   (fun c10 h => ret_at hR _ h (fun n => n) rfl rfl rfl (rn_bool_tf rfl) rfl (entl_bor (use_lo rfl) rfl rfl (entl_bor (use_lo rfl) rfl rfl entl_nil)))
   (fun c10 h => bif_split h
   (fun c11 h => ret_at hR _ h (fun n => n) rfl rfl rfl (rn_bool_tf rfl) rfl (entl_bor (use_lo rfl) rfl rfl (entl_bor (use_lo rfl) rfl rfl entl_nil)))
   (fun c11 h => bif_split h
   (fun c12 h => ret_at hR _ h (fun n => n) rfl rfl rfl (rn_bool_tf rfl) rfl (entl_bor (use_lo rfl) rfl rfl (entl_bor (use_lo rfl) rfl rfl entl_nil)))
   (fun c12 h => bif_split h
   (fun c13 h => bif_split h
   (fun c14 h => bif_split h
   (fun c15 h => bif_split h
   (fun c16 h => ret_at hR _ h (fun n => n) rfl rfl rfl (rn_bool_tf rfl) rfl (entl_bor (use_lo rfl) rfl rfl (entl_bor (use_lo rfl) rfl rfl entl_nil)))
   (fun c16 h => ret_at hR _ h (fun n => n) rfl rfl rfl (rn_bool_tf rfl) rfl (entl_bor (use_lo rfl) rfl rfl (entl_bor (use_lo rfl) rfl rfl entl_nil))))
   (fun c15 h => no_some h))
   (fun c14 h => ret_at hR _ h (fun n => n) rfl rfl rfl (rn_bool_tf rfl) rfl (entl_bor (use_lo rfl) rfl rfl (entl_bor (use_lo rfl) rfl rfl entl_nil))))
   (fun c13 h => no_some h)))))))
   (fun c7 h => no_some h)))
   (fun c6 h => no_some h)))
   (fun c5 h => no_some h)))
   (fun c4 h => cond_yes c3 (bif_split h
   (fun c5 h => cond_yes c2 (bif_split h
   (fun c6 h => cond_yes c2 (bif_split h
   (fun c7 h => bif_split h
   (fun c8 h => ret_at hR _ h (fun n => n) rfl rfl rfl (rn_bool_tf rfl) rfl (entl_bor (use_lo rfl) rfl rfl (entl_bor (use_lo rfl) rfl rfl entl_nil)))
   (fun c8 h => bif_split h
   (fun c9 h => ret_at hR _ h (fun n => n) rfl rfl rfl (rn_bool_tf rfl) rfl (entl_bor (use_lo rfl) rfl rfl (entl_bor (use_lo rfl) rfl rfl entl_nil)))
   (fun c9 h => bif_split h
   (fun c10 h => ret_at hR _ h (fun n => n) rfl rfl rfl (rn_bool_tf rfl) rfl (entl_bor (use_lo rfl) rfl rfl (entl_bor (use_lo rfl) rfl rfl entl_nil)))
   (fun c10 h => bif_split h
   (fun c11 h => ret_at hR _ h (fun n => n) rfl rfl rfl (rn_bool_tf rfl) rfl (entl_bor (use_lo rfl) rfl rfl (entl_bor (use_lo rfl) rfl rfl entl_nil)))
   (fun c11 h => bif_split h
   (fun c12 h => ret_at hR _ h (fun n => n) rfl rfl rfl (rn_bool_tf rfl) rfl (entl_bor (use_lo rfl) rfl rfl (entl_bor (use_lo rfl) rfl rfl entl_nil)))
   (fun c12 h => bif_split h
   (fun c13 h => bif_split h
   (fun c14 h => ret_at hR _ h (fun n => n) rfl rfl rfl (rn_bool_tf rfl) rfl (entl_bor (use_lo rfl) rfl rfl (entl_bor (use_lo rfl) rfl rfl entl_nil)))
   (fun c14 h => ret_at hR _ h (fun n => n) rfl rfl rfl (rn_bool_tf rfl) rfl (entl_bor (use_lo rfl) rfl rfl (entl_bor (use_lo rfl) rfl rfl entl_nil))))
   (fun c13 h => no_some h)))))))
   (fun c7 h => no_some h)))
   (fun c6 h => no_some h)))
   (fun c5 h => no_some h))))
   (fun c3 h => no_some h)))
   (fun c2 h => no_some h))
   (fun c1 h => no_some h))))
theorem a9 (ap np mp : Nat) (tp : Nat → Int) (vp : Nat → Int) (o : Int) (al nl ml : Nat) (tl : Nat → Int) (ones : Int) {r : Rt9} (h : Goes ((q9 ap np mp tp vp o al nl ml tl ones)) ((p9 ap np mp tp vp o al nl ml tl ones)) r) : CallR Try.prog 9 [.agg [.loose ⟨0, 2, ap, 0⟩ np, .int .u32 o], .loose ⟨1, 1, al, 0⟩ nl, .int .u32 ones] [[(0, (false, .cols mp [.int .u8 tp, .int .u8 vp])), (1, (false, .cols ml [.int .u8 tl]))]] 2 ((V9 ap np mp tp vp o al nl ml tl ones) r) ((fun r => [newL (2 + 1) ((N9 ap np mp tp vp o al nl ml tl ones) r) ++ [(0, (false, .cols mp [.int .u8 tp, .int .u8 vp])), (1, (false, .cols ml [.int .u8 tl]))]]) r) 400 ∧ ∃ F, Try.prog.funcs[9]? = some F ∧ F.body.isSome = true ∧ (F.name == "runtime.NumGoroutine") = false := by
  refine dec_calls (f := 9) (lo := 2) (hi := 400) (H := [[(0, (false, .cols mp [.int .u8 tp, .int .u8 vp])), (1, (false, .cols ml [.int .u8 tl]))]]) (args := [.agg [.loose ⟨0, 2, ap, 0⟩ np, .int .u32 o], .loose ⟨1, 1, al, 0⟩ nl, .int .u32 ones]) Try.envOk Try.mixed yE3_ok ((I9 ap np mp tp vp o al nl ml tl ones)) ((V9 ap np mp tp vp o al nl ml tl ones)) (fun r => [newL (2 + 1) ((N9 ap np mp tp vp o al nl ml tl ones) r) ++ [(0, (false, .cols mp [.int .u8 tp, .int .u8 vp])), (1, (false, .cols ml [.int .u8 tl]))]]) (fn := mkFn Try.f9) (ts := []) (n := 400) rfl (by decide) (by simp) (names_of rfl) ?_ ?_ ?_ h
  · intro s; exact s.elim
  · intro Kst Kret x hS hR h
    exact Holds.eq (te9 cond Kst Kret ap np mp tp vp o al nl ml tl ones) (be9 ap np mp tp vp o al nl ml tl ones Kst Kret x hS hR h)
  · intro Kst Kret x hS hR s h; exact s.elim
noncomputable def k9 : Con := ⟨9, [.agg [.list [.int .u8, .int .u8], .plain (.int .u32)], .one (.list [.int .u8]), .one (.plain (.int .u32))], fun (x : ((Nat × Nat × Nat × (Nat → Int) × (Nat → Int) × Unit) × Int × Unit) × (Nat × Nat × Nat × (Nat → Int) × Unit) × Int × Unit) => (fun (ap np mp : Nat) (tp : Nat → Int) (vp : Nat → Int) (o : Int) (al nl ml : Nat) (tl : Nat → Int) (ones : Int) => decide (ap + np ≤ mp ∧ S.bytes np (fun j => tp (j + ap)) = true ∧ S.bytes np (fun j => vp (j + ap)) = true ∧ al + nl ≤ ml ∧ S.bytes nl (fun j => tl (j + al)) = true)) x.1.1.1 x.1.1.2.1 x.1.1.2.2.1 x.1.1.2.2.2.1 x.1.1.2.2.2.2.1 x.1.2.1 x.2.1.1 x.2.1.2.1 x.2.1.2.2.1 x.2.1.2.2.2.1 x.2.2.1, fun (x : ((Nat × Nat × Nat × (Nat → Int) × (Nat → Int) × Unit) × Int × Unit) × (Nat × Nat × Nat × (Nat → Int) × Unit) × Int × Unit) => (fun (ap np mp : Nat) (tp : Nat → Int) (vp : Nat → Int) (o : Int) (al nl ml : Nat) (tl : Nat → Int) (ones : Int) => (V9 ap np mp tp vp o al nl ml tl ones) (true)) x.1.1.1 x.1.1.2.1 x.1.1.2.2.1 x.1.1.2.2.2.1 x.1.1.2.2.2.2.1 x.1.2.1 x.2.1.1 x.2.1.2.1 x.2.1.2.2.1 x.2.1.2.2.2.1 x.2.2.1, fun (x : ((Nat × Nat × Nat × (Nat → Int) × (Nat → Int) × Unit) × Int × Unit) × (Nat × Nat × Nat × (Nat → Int) × Unit) × Int × Unit) => (fun (ap np mp : Nat) (tp : Nat → Int) (vp : Nat → Int) (o : Int) (al nl ml : Nat) (tl : Nat → Int) (ones : Int) => (N9 ap np mp tp vp o al nl ml tl ones) (true)) x.1.1.1 x.1.1.2.1 x.1.1.2.2.1 x.1.1.2.2.2.1 x.1.1.2.2.2.2.1 x.1.2.1 x.2.1.1 x.2.1.2.1 x.2.1.2.2.1 x.2.1.2.2.2.1 x.2.2.1, fun _ _ => .dead⟩
theorem s9 (ap np mp : Nat) (tp : Nat → Int) (vp : Nat → Int) (o : Int) (al nl ml : Nat) (tl : Nat → Int) (ones : Int) (hp : ap + np ≤ mp ∧ S.bytes np (fun j => tp (j + ap)) = true ∧ S.bytes np (fun j => vp (j + ap)) = true ∧ al + nl ≤ ml ∧ S.bytes nl (fun j => tl (j + al)) = true) : Goes ((q9 ap np mp tp vp o al nl ml tl ones)) ((p9 ap np mp tp vp o al nl ml tl ones)) (true) := by
  obtain ⟨hp1, hp2, hp3, hp4, hp5⟩ := hp
  unfold p9
  have hr : ∀ y ∈ (S.mkl nl fun j => S.inp (tl (j + al))), -4 ≤ y ∧ y ≤ 59 := fun y hy => by
    obtain ⟨j, hj, rfl⟩ := mkl_mem.mp hy
    exact inp_range (of_decide_eq_true hp5 j hj)
  have hlen : (S.mkl nl fun j => S.inp (tl (j + al))).length = nl := mkl_len
  generalize (S.mkl nl fun j => S.inp (tl (j + al))) = L at hr hlen ⊢
  by_cases h1 : (nl : Int) > 60
  · exact goes_ok (decide_eq_true h1) rfl
  refine goes_no (decide_eq_false h1) ?_
  have hx : ∀ y ∈ L, -1099511627776 ≤ y ∧ y ≤ 1099511627776 := fun y hy => by have := hr y hy; omega
  obtain ⟨n1, n2, -⟩ := mdN_le (np := np)
  have hlt := made_lt hp2 hp3
  obtain ⟨R, er, hR⟩ := made_er hp2 hp3 L (fun j => S.mdB o j) (by omega) hx
  have e1 := made_hist hp2 hp3 L (fun j => S.mdB o j) (by omega) hx
  have e2 := made_hist hp2 hp3 L (fun j => S.mdB ones j) (by omega) hx
  have e3 := made_hist hp2 hp3 L (fun j => S.mdB 0 j) (by omega) hx
  have e4 := made_hist hp2 hp3 L (fun j => S.mdB 4095 j) (by omega) hx
  simp only [er, e1, e2, e3, e4]
  have s1 : R = true → (S.mkl (S.mdN np) fun j => L.foldl (S.aft ((S.mdR np (fun j => tp (j + ap)) (fun j => vp (j + ap)) j).1) ((S.mdR np (fun j => tp (j + ap)) (fun j => vp (j + ap)) j).2.1)) (S.mdB o j)) = (S.mkl (S.mdN np) fun j => L.foldl (S.aft ((S.mdR np (fun j => tp (j + ap)) (fun j => vp (j + ap)) j).1) ((S.mdR np (fun j => tp (j + ap)) (fun j => vp (j + ap)) j).2.1)) (S.mdB ones j)) ∧ (S.mkl (S.mdN np) fun j => L.foldl (S.aft ((S.mdR np (fun j => tp (j + ap)) (fun j => vp (j + ap)) j).1) ((S.mdR np (fun j => tp (j + ap)) (fun j => vp (j + ap)) j).2.1)) (S.mdB 0 j)) = (S.mkl (S.mdN np) fun j => L.foldl (S.aft ((S.mdR np (fun j => tp (j + ap)) (fun j => vp (j + ap)) j).1) ((S.mdR np (fun j => tp (j + ap)) (fun j => vp (j + ap)) j).2.1)) (S.mdB 4095 j)) := fun h => ⟨mkl_congr fun j hj => fold_same (hR.mp h j hj) _ _, mkl_congr fun j hj => fold_same (hR.mp h j hj) _ _⟩
  have s2 : R = false → ¬ (S.mkl (S.mdN np) fun j => L.foldl (S.aft ((S.mdR np (fun j => tp (j + ap)) (fun j => vp (j + ap)) j).1) ((S.mdR np (fun j => tp (j + ap)) (fun j => vp (j + ap)) j).2.1)) (S.mdB 0 j)) = (S.mkl (S.mdN np) fun j => L.foldl (S.aft ((S.mdR np (fun j => tp (j + ap)) (fun j => vp (j + ap)) j).1) ((S.mdR np (fun j => tp (j + ap)) (fun j => vp (j + ap)) j).2.1)) (S.mdB 4095 j)) := fun h e => by
    have : ¬ ∀ j, j < S.mdN np → ∃ y ∈ L, y ≥ (S.mdR np (fun j => tp (j + ap)) (fun j => vp (j + ap)) j).1 ∨ y ≤ (S.mdR np (fun j => tp (j + ap)) (fun j => vp (j + ap)) j).2.1 := fun h' => by rw [hR.mpr h'] at h; cases h
    simp only [Classical.not_forall] at this
    obtain ⟨j, hj, hn⟩ := this
    have := (mkl_inj.mp e).2 j hj
    rw [fold_none hn, fold_none hn, md0 j (by omega), md4095 j (by omega)] at this
    cases this
  have hA : (S.mkl (S.mdN np) fun j => S.mdR np (fun j => tp (j + ap)) (fun j => vp (j + ap)) j).length = S.mdN np := mkl_len
  have hl1 : (S.mkl (S.mdN np) fun j => L.foldl (S.aft ((S.mdR np (fun j => tp (j + ap)) (fun j => vp (j + ap)) j).1) ((S.mdR np (fun j => tp (j + ap)) (fun j => vp (j + ap)) j).2.1)) (S.mdB o j)).length = S.mdN np := mkl_len
  have hl2 : (S.mkl (S.mdN np) fun j => L.foldl (S.aft ((S.mdR np (fun j => tp (j + ap)) (fun j => vp (j + ap)) j).1) ((S.mdR np (fun j => tp (j + ap)) (fun j => vp (j + ap)) j).2.1)) (S.mdB ones j)).length = S.mdN np := mkl_len
  have hl3 : (S.mkl (S.mdN np) fun j => L.foldl (S.aft ((S.mdR np (fun j => tp (j + ap)) (fun j => vp (j + ap)) j).1) ((S.mdR np (fun j => tp (j + ap)) (fun j => vp (j + ap)) j).2.1)) (S.mdB 0 j)).length = S.mdN np := mkl_len
  have hl4 : (S.mkl (S.mdN np) fun j => L.foldl (S.aft ((S.mdR np (fun j => tp (j + ap)) (fun j => vp (j + ap)) j).1) ((S.mdR np (fun j => tp (j + ap)) (fun j => vp (j + ap)) j).2.1)) (S.mdB 4095 j)).length = S.mdN np := mkl_len
  have m1 : ∀ X : List Bool, (S.mkl X.length fun j => S.at' X j) = X := mkl1_at
  have m3 : ∀ X : List (Int × Int × Int), (S.mkl X.length fun j => ((S.at' X j).1, (S.at' X j).2.1, (S.at' X j).2.2)) = X := mkl3_at
  have hB1 : (S.mkl (S.mdN np) fun j => S.mdB o j).length = S.mdN np := mkl_len
  have hB2 : (S.mkl (S.mdN np) fun j => S.mdB ones j).length = S.mdN np := mkl_len
  have hB3 : (S.mkl (S.mdN np) fun j => S.mdB 0 j).length = S.mdN np := mkl_len
  have hB4 : (S.mkl (S.mdN np) fun j => S.mdB 4095 j).length = S.mdN np := mkl_len
  generalize (S.mkl (S.mdN np) fun j => S.mdR np (fun j => tp (j + ap)) (fun j => vp (j + ap)) j) = A at *
  generalize (S.mkl (S.mdN np) fun j => S.mdB o j) = B1 at *
  generalize (S.mkl (S.mdN np) fun j => S.mdB ones j) = B2 at *
  generalize (S.mkl (S.mdN np) fun j => S.mdB 0 j) = B3 at *
  generalize (S.mkl (S.mdN np) fun j => S.mdB 4095 j) = B4 at *
  generalize (S.mkl (S.mdN np) fun j => L.foldl (S.aft ((S.mdR np (fun j => tp (j + ap)) (fun j => vp (j + ap)) j).1) ((S.mdR np (fun j => tp (j + ap)) (fun j => vp (j + ap)) j).2.1)) (S.mdB o j)) = C1 at *
  generalize (S.mkl (S.mdN np) fun j => L.foldl (S.aft ((S.mdR np (fun j => tp (j + ap)) (fun j => vp (j + ap)) j).1) ((S.mdR np (fun j => tp (j + ap)) (fun j => vp (j + ap)) j).2.1)) (S.mdB ones j)) = C2 at *
  generalize (S.mkl (S.mdN np) fun j => L.foldl (S.aft ((S.mdR np (fun j => tp (j + ap)) (fun j => vp (j + ap)) j).1) ((S.mdR np (fun j => tp (j + ap)) (fun j => vp (j + ap)) j).2.1)) (S.mdB 0 j)) = C3 at *
  generalize (S.mkl (S.mdN np) fun j => L.foldl (S.aft ((S.mdR np (fun j => tp (j + ap)) (fun j => vp (j + ap)) j).1) ((S.mdR np (fun j => tp (j + ap)) (fun j => vp (j + ap)) j).2.1)) (S.mdB 4095 j)) = C4 at *
  simp only [m1, m3]
  refine goes_ok (decide_eq_true ⟨hp4, by omega, hp5⟩) (goes_ok (decide_eq_true ⟨hp1, hp2, hp3⟩) ?_)
  cases R with
  | true =>
    obtain ⟨rfl, rfl⟩ := s1 rfl
    repeat' first
      | with_reducible exact goes_inr.mpr rfl
      | (refine goes_ok ?_ ?_; focus (first | with_reducible exact beq_self_eq_true _ | (simp only [Bool.and_eq_true, decide_eq_true_eq, and_self, eq_self]; done) | with_reducible exact decide_eq_true trivial | with_reducible exact decide_eq_true rfl | (simp only [eq_self, decide_true, Bool.and_self, Bool.and_true, Bool.true_and]; done) | (apply decide_eq_true; omega) | (rw [lim64]; apply decide_eq_true; omega) | (apply decide_eq_true; simp only [mkl_len, mkl_zero, List.length_nil, true_and, and_true, and_self, Nat.zero_add, Nat.add_zero, Nat.le_refl]; done) | (apply decide_eq_true; simp only [mkl_len, mkl_zero, List.length_nil, true_and, and_true, and_self, Nat.zero_add, Nat.add_zero, Nat.le_refl]; omega) | decide))
      | (refine goes_no ?_ ?_; focus (first | with_reducible exact bne_self_eq_false _ | (apply decide_eq_false; omega) | decide))

  | false =>
    have hd : decide (C3 = C4) = false := decide_eq_false (s2 rfl)
    simp only [hd, Bool.and_false]
    repeat' first
      | with_reducible exact goes_inr.mpr rfl
      | (refine goes_ok ?_ ?_; focus (first | with_reducible exact beq_self_eq_true _ | (simp only [Bool.and_eq_true, decide_eq_true_eq, and_self, eq_self]; done) | with_reducible exact decide_eq_true trivial | with_reducible exact decide_eq_true rfl | (simp only [eq_self, decide_true, Bool.and_self, Bool.and_true, Bool.true_and]; done) | (apply decide_eq_true; omega) | (rw [lim64]; apply decide_eq_true; omega) | (apply decide_eq_true; simp only [mkl_len, mkl_zero, List.length_nil, true_and, and_true, and_self, Nat.zero_add, Nat.add_zero, Nat.le_refl]; done) | (apply decide_eq_true; simp only [mkl_len, mkl_zero, List.length_nil, true_and, and_true, and_self, Nat.zero_add, Nat.add_zero, Nat.le_refl]; omega) | decide))
      | (refine goes_no ?_ ?_; focus (first | with_reducible exact bne_self_eq_false _ | (apply decide_eq_false; omega) | decide | rfl))


theorem k9_ok : k9.ok Try.prog := by
  intro x hx
  obtain ⟨⟨⟨ap, np, mp, tp, vp, _⟩, o, _⟩, ⟨al, nl, ml, tl, _⟩, ones, _⟩ := x
  obtain ⟨h1, h2⟩ := a9 ap np mp tp vp o al nl ml tl ones (s9 ap np mp tp vp o al nl ml tl ones (of_decide_eq_true hx))
  exact ⟨⟨400, (by decide : 2 + 1 + 0 ≤ 400), h1⟩, h2⟩


end Go.Ev
