/-
  Made trees.
-/
import Derived.Test.YtffldkecndnbiaaA1
namespace Go.Ev
open Go.Proofs
set_option linter.unusedVariables false
set_option linter.unusedSimpArgs false
set_option maxRecDepth 100000

namespace S
def u32s (n : Nat) (t : Nat → Int) : Bool := decide (∀ j, j < n → 0 ≤ t j ∧ t j ≤ 4294967295)
def bytes (n : Nat) (t : Nat → Int) : Bool := decide (∀ j, j < n → 0 ≤ t j ∧ t j ≤ 255)
def byte (x : Int) : Bool := decide (0 ≤ x ∧ x ≤ 255)
def mdx (c : Int) (i : Nat) : Int × Int × Int × Int := (Int.tmod c ((i : Int) + 1), Int.tmod (Int.tdiv c 32) 256, Int.tmod (Int.tdiv c 8192) 256, Int.tmod (Int.tdiv c 2097152) (1 + min (min (Int.tmod (Int.tdiv c 32) 256) (Int.tmod (Int.tdiv c 8192) 256)) 20))
def mdn (t : Nat → Int) : Nat → Int × Int × Int × Int
  | 0 => (-1, 0, 0, 0)
  | i + 1 => mdx (t i) i
def mdL (n : Nat) (t : Nat → Int) : List (Int × Int × Int × Int) := mkl (min n 30 + 1) (mdn t)
def sprT (w : Nat → Int) (m : Nat) (y : Nat → Int) (q : Nat) : Int := if q < m then Int.tmod (y q) (2 * w q + 1) - w q else 0
def sprL (n : Nat) (w : Nat → Int) (m : Nat) (y : Nat → Int) : List Int := mkl n (sprT w m y)
/-- The error of a tree that is a list. -/
def treL (L : List (Int × Int × Int × Int)) : Int := treE L.length (fun q => (at' L q).1) (fun q => (at' L q).2.1) (fun q => (at' L q).2.2.1) (fun q => (at' L q).2.2.2)
end S
theorem tdv {x c : Int} (h : 0 ≤ x) (hc : 0 < c) : 0 ≤ Int.tdiv x c ∧ Int.tdiv x c ≤ x := by
  rw [Int.tdiv_eq_ediv_of_nonneg h]
  exact ⟨Int.ediv_nonneg h (by omega), Int.ediv_le_self _ h⟩
theorem tmd {x c : Int} (h : 0 ≤ x) (hc : 0 < c) : 0 ≤ Int.tmod x c ∧ Int.tmod x c < c := by
  rw [Int.tmod_eq_emod_of_nonneg h]
  exact ⟨Int.emod_nonneg _ (by omega), Int.emod_lt_of_pos _ hc⟩
theorem mdx_ok {c : Int} (h : 0 ≤ c) (i : Nat) : (0 ≤ (S.mdx c i).1 ∧ (S.mdx c i).1 < (i : Int) + 1) ∧ (0 ≤ (S.mdx c i).2.1 ∧ (S.mdx c i).2.1 ≤ 255) ∧ (0 ≤ (S.mdx c i).2.2.1 ∧ (S.mdx c i).2.2.1 ≤ 255) ∧ 0 ≤ (S.mdx c i).2.2.2 ∧ (S.mdx c i).2.2.2 ≤ (S.mdx c i).2.1 ∧ (S.mdx c i).2.2.2 ≤ (S.mdx c i).2.2.1 := by
  have h1 := tdv h (show (0 : Int) < 32 by decide)
  have h2 := tdv h (show (0 : Int) < 8192 by decide)
  have h3 := tdv h (show (0 : Int) < 2097152 by decide)
  have m1 := tmd h1.1 (show (0 : Int) < 256 by decide)
  have m2 := tmd h2.1 (show (0 : Int) < 256 by decide)
  have m3 := tmd h3.1 (show (0 : Int) < 1 + min (min (Int.tmod (Int.tdiv c 32) 256) (Int.tmod (Int.tdiv c 8192) 256)) 20 by omega)
  have m4 := tmd h (show (0 : Int) < (i : Int) + 1 by omega)
  simp only [S.mdx]
  refine ⟨m4, ⟨m1.1, by omega⟩, ⟨m2.1, by omega⟩, m3.1, by omega, by omega⟩
theorem nodE_of {p d u j : Nat → Int} : ∀ {k i : Nat}, (∀ a, i ≤ a → a < i + k → S.okO a (p a) = true ∧ S.okB a (d a) (u a) (j a) = true) → S.nodE p d u j i k = 0
  | 0, i, _ => rfl
  | k + 1, i, h => by
    simp only [S.nodE]
    rw [if_pos (h i (Nat.le_refl _) (by omega)).1, if_pos (h i (Nat.le_refl _) (by omega)).2]
    exact nodE_of fun a h1 h2 => h a (by omega) (by omega)
theorem mdL_len {n : Nat} {t : Nat → Int} : (S.mdL n t).length = min n 30 + 1 := mkl_len
/-- What is made is a tree. -/
theorem mdL_ok {n : Nat} {t : Nat → Int} (h : S.u32s n t = true) : S.treL (S.mdL n t) = 0 := by
  have h0 := of_decide_eq_true h
  unfold S.treL S.treE
  rw [mdL_len, if_neg (by omega), if_neg (by omega)]
  refine nodE_of fun a _ ha => ?_
  have e : S.at' (S.mdL n t) a = S.mdn t a := at_mkl (by omega)
  rw [e]
  cases a with
  | zero => exact ⟨(by decide : S.okO 0 (-1) = true), (by decide : S.okB 0 0 0 0 = true)⟩
  | succ i =>
    have hi := h0 i (by omega)
    have hm := mdx_ok hi.1 i
    have e2 : S.mdn t (i + 1) = S.mdx (t i) i := rfl
    rw [e2]
    exact ⟨decide_eq_true ⟨fun h => by omega, fun _ => by omega⟩, decide_eq_true ⟨fun h => by omega, by omega, by omega, by omega, by omega, by omega⟩⟩
inductive St34 where
  | h0 (x0 : Int) (x1 : List (Int × Int × Int × Int))
abbrev Rt34 := List (Int × Int × Int × Int)
noncomputable def V34 (al nl ml : Nat) (tl : Nat → Int) (r : Rt34) : PV := PV.agg [PV.own (2) (4) (List.length r)]
noncomputable def N34 (al nl ml : Nat) (tl : Nat → Int) (r : Rt34) : List Blk := [Blk.cols (List.length r)
 [Col.int IntKind.i64 fun (j : Nat) => (S.at' r j).1,
 Col.int IntKind.i64 fun (j : Nat) => (S.at' r j).2.1,
 Col.int IntKind.i64 fun (j : Nat) => (S.at' r j).2.2.1,
 Col.int IntKind.i64 fun (j : Nat) => (S.at' r j).2.2.2]]
noncomputable def I34 (al nl ml : Nat) (tl : Nat → Int) : St34 → Hd
  | .h0 x0 x1 => ⟨hd Try.f34 0, [PV.loose (PA.mk (0) (1) al (0)) nl,
 PV.ptr (PA.mk (1) (0) (0) (0)),
 PV.ptr (PA.mk (2) (0) (0) (0)), PV.int IntKind.i64 x0], [[(1, (true, Blk.cells [PV.nils])), (2, (true, Blk.cells [PV.own (3) (4) (List.length x1)])), (3, (true, Blk.cols (List.length x1)
 [Col.int IntKind.i64 fun (j : Nat) => (S.at' x1 j).1,
 Col.int IntKind.i64 fun (j : Nat) => (S.at' x1 j).2.1,
 Col.int IntKind.i64 fun (j : Nat) => (S.at' x1 j).2.2.1,
 Col.int IntKind.i64 fun (j : Nat) => (S.at' x1 j).2.2.2]))], [(0, (false, .cols ml [.int .u32 tl]))]], 4⟩
noncomputable def q34 (al nl ml : Nat) (tl : Nat → Int) : St34 → Option (St34 ⊕ Rt34)
  | .h0 x0 x1 => bif (decide (x0 < (↑nl : Int)))
 then (bif (decide (x0 < (30 : Int)))
 then (bif (decide ((0 : Int) ≤ x0 ∧ x0 < (↑nl : Int)))
 then (bif (decide (Int.toNat x0 + al < ml))
 then (bif (lim IntKind.i64 (tl (Int.toNat x0 + al)))
 then (bif (lim IntKind.i64 (x0 + (1 : Int)))
 then (bif (decide (x0 + (1 : Int) = (0 : Int)))
 then (none)
 else (bif (lim IntKind.i64 (Int.tdiv (tl (Int.toNat x0 + al)) (32 : Int)))
 then (bif (lim IntKind.i64 (Int.tdiv (tl (Int.toNat x0 + al)) (8192 : Int)))
 then (bif (lim IntKind.i64 (Int.tdiv (tl (Int.toNat x0 + al)) (2097152 : Int)))
 then (bif (lim IntKind.i64
 ((1 : Int) +
 Min.min
 (Min.min (Int.tmod (Int.tdiv (tl (Int.toNat x0 + al)) (32 : Int)) (256 : Int))
 (Int.tmod (Int.tdiv (tl (Int.toNat x0 + al)) (8192 : Int)) (256 : Int)))
 (20 : Int)))
 then (bif (decide
 ((1 : Int) +
 Min.min
 (Min.min (Int.tmod (Int.tdiv (tl (Int.toNat x0 + al)) (32 : Int)) (256 : Int))
 (Int.tmod (Int.tdiv (tl (Int.toNat x0 + al)) (8192 : Int)) (256 : Int)))
 (20 : Int) =
 (0 : Int)))
 then (none)
 else (bif (decide (List.length x1 + 1 ≤ 1000000))
 then (bif (decide (List.length x1 ≤ List.length x1))
 then (some (.inl (.h0 (x0 + (1 : Int)) (S.snoc x1
 (Int.tmod (tl (Int.toNat x0 + al)) (x0 + (1 : Int)),
 Int.tmod (Int.tdiv (tl (Int.toNat x0 + al)) (32 : Int)) (256 : Int),
 Int.tmod (Int.tdiv (tl (Int.toNat x0 + al)) (8192 : Int)) (256 : Int),
 Int.tmod (Int.tdiv (tl (Int.toNat x0 + al)) (2097152 : Int))
 ((1 : Int) +
 Min.min
 (Min.min (Int.tmod (Int.tdiv (tl (Int.toNat x0 + al)) (32 : Int)) (256 : Int))
 (Int.tmod (Int.tdiv (tl (Int.toNat x0 + al)) (8192 : Int)) (256 : Int)))
 (20 : Int)))))))
 else (none))
 else (none)))
 else (none))
 else (none))
 else (none))
 else (none)))
 else (none))
 else (none))
 else (none))
 else (none))
 else (some (.inr (x1))))
 else (some (.inr (x1)))
noncomputable def p34 (al nl ml : Nat) (tl : Nat → Int) : Option (St34 ⊕ Rt34) := some (.inl (.h0 ((0 : Int)) ([((-1 : Int), (0 : Int), (0 : Int), (0 : Int))])))
noncomputable def Te34 (test : Bool → Prop → Prop → Prop) (Kst : KS) (Kret : KR) (al nl ml : Nat) (tl : Nat → Int) : Prop :=
  Kst (hd Try.f34 0) ([PV.loose (PA.mk (0) (1) al (0)) nl,
 PV.ptr (PA.mk (1) (0) (0) (0)),
 PV.ptr (PA.mk (3) (0) (0) (0)), PV.int IntKind.i64 (0 : Int)]) ([[(0, false, Blk.cols ml [Col.int IntKind.u32 tl]),
 (3, true, Blk.cells [PV.own (2) (4) (1)]),
 (1, true, Blk.cells [PV.nils]),
 (2, true,
 Blk.cells
 [PV.int IntKind.i64 (-1 : Int), PV.int IntKind.i64 (0 : Int),
 PV.int IntKind.i64 (0 : Int), PV.int IntKind.i64 (0 : Int)])]]) (4)
set_option maxRecDepth 100000 in
theorem te34 (test : Bool → Prop → Prop → Prop) (Kst : KS) (Kret : KR) (al nl ml : Nat) (tl : Nat → Int) : run test Try.env true noX true 400 ⟨34, [.cd (mkFn Try.f34).body], argT 0 [.loose ⟨0, 1, al, 0⟩ nl], [[], [(0, (false, .cols ml [.int .u32 tl]))]], 1⟩ (proj 1 [0, 2, 3, 4] Kst Kret) =
  Te34 test Kst Kret al nl ml tl := by kernel_rfl
noncomputable def T34_0 (test : Bool → Prop → Prop → Prop) (Kst : KS) (Kret : KR) (al nl ml : Nat) (tl : Nat → Int) (x0 : Int) (x1 : List (Int × Int × Int × Int)) : Prop :=
  test (decide (x0 < (↑nl : Int)))
 (test (decide (x0 < (30 : Int)))
 (test (decide ((0 : Int) ≤ x0 ∧ x0 < (↑nl : Int)))
 (test (decide (Int.toNat x0 + al < ml))
 (test (lim IntKind.i64 (tl (Int.toNat x0 + al)))
 (test (lim IntKind.i64 (x0 + (1 : Int)))
 (test (decide (x0 + (1 : Int) = (0 : Int)))
 (False)
 (test (false)
 (False)
 (test (lim IntKind.i64 (Int.tdiv (tl (Int.toNat x0 + al)) (32 : Int)))
 (test (false)
 (False)
 (test (false)
 (False)
 (test (lim IntKind.i64 (Int.tdiv (tl (Int.toNat x0 + al)) (8192 : Int)))
 (test (false)
 (False)
 (test (false)
 (False)
 (test (lim IntKind.i64 (Int.tdiv (tl (Int.toNat x0 + al)) (2097152 : Int)))
 (test (lim IntKind.i64
 ((1 : Int) +
 Min.min
 (Min.min (Int.tmod (Int.tdiv (tl (Int.toNat x0 + al)) (32 : Int)) (256 : Int))
 (Int.tmod (Int.tdiv (tl (Int.toNat x0 + al)) (8192 : Int)) (256 : Int)))
 (20 : Int)))
 (test (decide
 ((1 : Int) +
 Min.min
 (Min.min (Int.tmod (Int.tdiv (tl (Int.toNat x0 + al)) (32 : Int)) (256 : Int))
 (Int.tmod (Int.tdiv (tl (Int.toNat x0 + al)) (8192 : Int)) (256 : Int)))
 (20 : Int) =
 (0 : Int)))
 (False)
 (test (decide (List.length x1 + 1 ≤ 1000000))
 (test (decide (List.length x1 ≤ List.length x1))
 (test (true)
 (test (lim IntKind.i64 (x0 + (1 : Int)))
 (Kst (hd Try.f34 0) ([PV.loose (PA.mk (0) (1) al (0)) nl,
 PV.ptr (PA.mk (1) (0) (0) (0)),
 PV.ptr (PA.mk (2) (0) (0) (0)),
 PV.int IntKind.i64 (x0 + (1 : Int))]) ([[(0, false, Blk.cols ml [Col.int IntKind.u32 tl]),
 (2, true, Blk.cells [PV.own (6) (4) (List.length x1 + 1)]),
 (1, true, Blk.cells [PV.nils]),
 (6, true,
 Blk.cols (List.length x1 + 1)
 [Col.int IntKind.i64 fun (j : Nat) =>
 bif Nat.blt j (List.length x1) then (S.at' x1 j).1
 else Int.tmod (tl (Int.toNat x0 + al)) (x0 + (1 : Int)),
 Col.int IntKind.i64 fun (j : Nat) =>
 bif Nat.blt j (List.length x1) then (S.at' x1 j).2.1
 else Int.tmod (Int.tdiv (tl (Int.toNat x0 + al)) (32 : Int)) (256 : Int),
 Col.int IntKind.i64 fun (j : Nat) =>
 bif Nat.blt j (List.length x1) then (S.at' x1 j).2.2.1
 else Int.tmod (Int.tdiv (tl (Int.toNat x0 + al)) (8192 : Int)) (256 : Int),
 Col.int IntKind.i64 fun (j : Nat) =>
 bif Nat.blt j (List.length x1) then (S.at' x1 j).2.2.2
 else
 Int.tmod (Int.tdiv (tl (Int.toNat x0 + al)) (2097152 : Int))
 ((1 : Int) +
 Min.min
 (Min.min (Int.tmod (Int.tdiv (tl (Int.toNat x0 + al)) (32 : Int)) (256 : Int))
 (Int.tmod (Int.tdiv (tl (Int.toNat x0 + al)) (8192 : Int)) (256 : Int)))
 (20 : Int))])]]) (7))
 (False))
 (False))
 (False))
 (False)))
 (False))
 (False))))
 (False))))
 (False))))
 (False))
 (False))
 (False))
 (False))
 (Kret (PV.agg [PV.own (3) (4) (List.length x1)]) ([[(0, false, Blk.cols ml [Col.int IntKind.u32 tl]),
 (3, true,
 Blk.cols (List.length x1)
 [Col.int IntKind.i64 fun (j : Nat) => (S.at' x1 j).1,
 Col.int IntKind.i64 fun (j : Nat) => (S.at' x1 j).2.1,
 Col.int IntKind.i64 fun (j : Nat) => (S.at' x1 j).2.2.1,
 Col.int IntKind.i64 fun (j : Nat) => (S.at' x1 j).2.2.2])]]) (4)))
 (Kret (PV.agg [PV.own (3) (4) (List.length x1)]) ([[(0, false, Blk.cols ml [Col.int IntKind.u32 tl]),
 (3, true,
 Blk.cols (List.length x1)
 [Col.int IntKind.i64 fun (j : Nat) => (S.at' x1 j).1,
 Col.int IntKind.i64 fun (j : Nat) => (S.at' x1 j).2.1,
 Col.int IntKind.i64 fun (j : Nat) => (S.at' x1 j).2.2.1,
 Col.int IntKind.i64 fun (j : Nat) => (S.at' x1 j).2.2.2])]]) (4))
set_option maxRecDepth 100000 in
theorem t34_0 (test : Bool → Prop → Prop → Prop) (Kst : KS) (Kret : KR) (al nl ml : Nat) (tl : Nat → Int) (x0 : Int) (x1 : List (Int × Int × Int × Int)) : run test Try.env true noX true 400 ⟨34, hd Try.f34 0, zipT [0, 2, 3, 4] [PV.loose (PA.mk (0) (1) al (0)) nl,
 PV.ptr (PA.mk (1) (0) (0) (0)),
 PV.ptr (PA.mk (2) (0) (0) (0)), PV.int IntKind.i64 x0], [[(1, (true, Blk.cells [PV.nils])), (2, (true, Blk.cells [PV.own (3) (4) (List.length x1)])), (3, (true, Blk.cols (List.length x1)
 [Col.int IntKind.i64 fun (j : Nat) => (S.at' x1 j).1,
 Col.int IntKind.i64 fun (j : Nat) => (S.at' x1 j).2.1,
 Col.int IntKind.i64 fun (j : Nat) => (S.at' x1 j).2.2.1,
 Col.int IntKind.i64 fun (j : Nat) => (S.at' x1 j).2.2.2]))], [(0, (false, .cols ml [.int .u32 tl]))]], 4⟩ (proj 1 [0, 2, 3, 4] Kst Kret) =
  T34_0 test Kst Kret al nl ml tl x0 x1 := by kernel_rfl
set_option maxRecDepth 100000 in
theorem be34 (al nl ml : Nat) (tl : Nat → Int) (Kst : KS) (Kret : KR) (x : St34 ⊕ Rt34) (hS : HS 1 400 ((I34 al nl ml tl)) Kst x) (hR : HR 1 400 ((V34 al nl ml tl)) (fun r => [newL (1 + 1) ((N34 al nl ml tl) r) ++ [(0, (false, .cols ml [.int .u32 tl]))]]) Kret x) (h : (some (.inl (.h0 ((0 : Int)) ([((-1 : Int), (0 : Int), (0 : Int), (0 : Int))]))) : Option (St34 ⊕ Rt34)) = some x) : Te34 cond Kst Kret al nl ml tl := by
  unfold Te34
  exact stop_at hS _ h (fun n => bif Nat.beq n 1 then 1 else bif Nat.beq n 2 then 3 else bif Nat.beq n 3 then 2 else n) rfl rfl rfl ⟨(rn_loose (use_lo rfl) rfl rfl rfl), ⟨(rn_ptr (use_own rfl) rfl rfl), ⟨(rn_ptr (use_own rfl) rfl rfl), ⟨(rn_int rfl), trivial⟩⟩⟩⟩ rfl (entl_b (use_own rfl) rfl (by simp) (rb_cells ⟨rn_nils, trivial⟩) (entl_b (use_own rfl) rfl (by simp) (rb_cells ⟨(rn_own (use_own rfl) rfl rfl), trivial⟩) (entl_b (use_own rfl) rfl (by simp) (rb_lit (fun j hj i hi => (match j, hj with | 0, _ => (match i, hi with | 0, _ => ⟨_, rfl, rn_int rfl⟩ | 1, _ => ⟨_, rfl, rn_int rfl⟩ | 2, _ => ⟨_, rfl, rn_int rfl⟩ | 3, _ => ⟨_, rfl, rn_int rfl⟩ | _ + 4, h => absurd h (by simp [lenc])) | _ + 1, h => absurd h (by simp)))) (entl_bor (use_lo rfl) rfl rfl entl_nil))))
set_option maxRecDepth 100000 in
theorem b34_0 (al nl ml : Nat) (tl : Nat → Int) (Kst : KS) (Kret : KR) (x : St34 ⊕ Rt34) (hS : HS 1 400 ((I34 al nl ml tl)) Kst x) (hR : HR 1 400 ((V34 al nl ml tl)) (fun r => [newL (1 + 1) ((N34 al nl ml tl) r) ++ [(0, (false, .cols ml [.int .u32 tl]))]]) Kret x) (x0 : Int) (x1 : List (Int × Int × Int × Int)) (h : (bif (decide (x0 < (↑nl : Int)))
 then (bif (decide (x0 < (30 : Int)))
 then (bif (decide ((0 : Int) ≤ x0 ∧ x0 < (↑nl : Int)))
 then (bif (decide (Int.toNat x0 + al < ml))
 then (bif (lim IntKind.i64 (tl (Int.toNat x0 + al)))
 then (bif (lim IntKind.i64 (x0 + (1 : Int)))
 then (bif (decide (x0 + (1 : Int) = (0 : Int)))
 then (none)
 else (bif (lim IntKind.i64 (Int.tdiv (tl (Int.toNat x0 + al)) (32 : Int)))
 then (bif (lim IntKind.i64 (Int.tdiv (tl (Int.toNat x0 + al)) (8192 : Int)))
 then (bif (lim IntKind.i64 (Int.tdiv (tl (Int.toNat x0 + al)) (2097152 : Int)))
 then (bif (lim IntKind.i64
 ((1 : Int) +
 Min.min
 (Min.min (Int.tmod (Int.tdiv (tl (Int.toNat x0 + al)) (32 : Int)) (256 : Int))
 (Int.tmod (Int.tdiv (tl (Int.toNat x0 + al)) (8192 : Int)) (256 : Int)))
 (20 : Int)))
 then (bif (decide
 ((1 : Int) +
 Min.min
 (Min.min (Int.tmod (Int.tdiv (tl (Int.toNat x0 + al)) (32 : Int)) (256 : Int))
 (Int.tmod (Int.tdiv (tl (Int.toNat x0 + al)) (8192 : Int)) (256 : Int)))
 (20 : Int) =
 (0 : Int)))
 then (none)
 else (bif (decide (List.length x1 + 1 ≤ 1000000))
 then (bif (decide (List.length x1 ≤ List.length x1))
 then (some (.inl (.h0 (x0 + (1 : Int)) (S.snoc x1
 (Int.tmod (tl (Int.toNat x0 + al)) (x0 + (1 : Int)),
 Int.tmod (Int.tdiv (tl (Int.toNat x0 + al)) (32 : Int)) (256 : Int),
 Int.tmod (Int.tdiv (tl (Int.toNat x0 + al)) (8192 : Int)) (256 : Int),
 Int.tmod (Int.tdiv (tl (Int.toNat x0 + al)) (2097152 : Int))
 ((1 : Int) +
 Min.min
 (Min.min (Int.tmod (Int.tdiv (tl (Int.toNat x0 + al)) (32 : Int)) (256 : Int))
 (Int.tmod (Int.tdiv (tl (Int.toNat x0 + al)) (8192 : Int)) (256 : Int)))
 (20 : Int)))))))
 else (none))
 else (none)))
 else (none))
 else (none))
 else (none))
 else (none)))
 else (none))
 else (none))
 else (none))
 else (none))
 else (some (.inr (x1))))
 else (some (.inr (x1))) : Option (St34 ⊕ Rt34)) = some x) : T34_0 cond Kst Kret al nl ml tl x0 x1 := by
  unfold T34_0
  exact bif_split h
   (fun c0 h => bif_split h
   (fun c1 h => bif_split h
   (fun c2 h => bif_split h
   (fun c3 h => bif_split h
   (fun c4 h => bif_split h
   (fun c5 h => bif_split h
   (fun c6 h => no_some h)
   (fun c6 h => cond_no rfl (bif_split h
   (fun c7 h => cond_no rfl (cond_no rfl (bif_split h
   (fun c8 h => cond_no rfl (cond_no rfl (bif_split h
   (fun c9 h => bif_split h
   (fun c10 h => bif_split h
   (fun c11 h => no_some h)
   (fun c11 h => bif_split h
   (fun c12 h => bif_split h
   (fun c13 h => cond_yes rfl (cond_yes c5 (stop_at hS _ h (fun n => bif Nat.beq n 1 then 1 else bif Nat.beq n 2 then 2 else bif Nat.beq n 3 then 6 else n) rfl rfl rfl ⟨(rn_loose (use_lo rfl) rfl rfl rfl), ⟨(rn_ptr (use_own rfl) rfl rfl), ⟨(rn_ptr (use_own rfl) rfl rfl), ⟨(rn_int rfl), trivial⟩⟩⟩⟩ rfl (entl_b (use_own rfl) rfl (by simp) (rb_cells ⟨rn_nils, trivial⟩) (entl_b (use_own rfl) rfl (by simp) (rb_cells ⟨(rn_own (use_own rfl) rfl (snoc_len' rfl)), trivial⟩) (entl_new (use_own rfl) rfl (Nat.le_of_eq (snoc_len' rfl)) (rcs_int (col_snoc' (fun (t : Int × Int × Int × Int) => t.1) rfl (fun _ _ => rfl)) (rcs_int (col_snoc' (fun (t : Int × Int × Int × Int) => t.2.1) rfl (fun _ _ => rfl)) (rcs_int (col_snoc' (fun (t : Int × Int × Int × Int) => t.2.2.1) rfl (fun _ _ => rfl)) (rcs_int (col_snoc' (fun (t : Int × Int × Int × Int) => t.2.2.2) rfl (fun _ _ => rfl)) rcs_nil)))) (entl_bor (use_lo rfl) rfl rfl entl_nil)))))))
   (fun c13 h => no_some h))
   (fun c12 h => no_some h)))
   (fun c10 h => no_some h))
   (fun c9 h => no_some h))))
   (fun c8 h => no_some h))))
   (fun c7 h => no_some h))))
   (fun c5 h => no_some h))
   (fun c4 h => no_some h))
   (fun c3 h => no_some h))
   (fun c2 h => no_some h))
   (fun c1 h => ret_at hR _ h (fun n => bif Nat.beq n 2 then 3 else n) rfl rfl rfl (rn_agg ⟨(rn_own (use_own rfl) rfl rfl), trivial⟩) rfl (entl_new (use_own rfl) rfl (Nat.le_of_eq rfl) (rcs_int (fun _ _ => rfl) (rcs_int (fun _ _ => rfl) (rcs_int (fun _ _ => rfl) (rcs_int (fun _ _ => rfl) rcs_nil)))) (entl_bor (use_lo rfl) rfl rfl entl_nil))))
   (fun c0 h => ret_at hR _ h (fun n => bif Nat.beq n 2 then 3 else n) rfl rfl rfl (rn_agg ⟨(rn_own (use_own rfl) rfl rfl), trivial⟩) rfl (entl_new (use_own rfl) rfl (Nat.le_of_eq rfl) (rcs_int (fun _ _ => rfl) (rcs_int (fun _ _ => rfl) (rcs_int (fun _ _ => rfl) (rcs_int (fun _ _ => rfl) rcs_nil)))) (entl_bor (use_lo rfl) rfl rfl entl_nil)))
theorem a34 (al nl ml : Nat) (tl : Nat → Int) {r : Rt34} (h : Goes ((q34 al nl ml tl)) ((p34 al nl ml tl)) r) : CallR Try.prog 34 [.loose ⟨0, 1, al, 0⟩ nl] [[(0, (false, .cols ml [.int .u32 tl]))]] 1 ((V34 al nl ml tl) r) ((fun r => [newL (1 + 1) ((N34 al nl ml tl) r) ++ [(0, (false, .cols ml [.int .u32 tl]))]]) r) 400 ∧ ∃ F, Try.prog.funcs[34]? = some F ∧ F.body.isSome = true ∧ (F.name == "runtime.NumGoroutine") = false := by
  refine dec_calls (f := 34) (lo := 1) (hi := 400) (H := [[(0, (false, .cols ml [.int .u32 tl]))]]) (args := [.loose ⟨0, 1, al, 0⟩ nl]) Try.envOk Try.mixed noX_ok ((I34 al nl ml tl)) ((V34 al nl ml tl)) (fun r => [newL (1 + 1) ((N34 al nl ml tl) r) ++ [(0, (false, .cols ml [.int .u32 tl]))]]) (fn := mkFn Try.f34) (ts := [0, 2, 3, 4]) (n := 400) rfl (by decide) (by simp) (names_of rfl) ?_ ?_ ?_ h
  · intro s; cases s <;> exact ⟨hd_ok _ _, by simp [I34], names_of rfl, Nat.le_of_ble_eq_true rfl⟩
  · intro Kst Kret x hS hR h
    exact Holds.eq (te34 cond Kst Kret al nl ml tl) (be34 al nl ml tl Kst Kret x hS hR h)
  · intro Kst Kret x hS hR s h
    cases s with
    | h0 x0 x1 => exact Holds.eq (t34_0 cond Kst Kret al nl ml tl x0 x1) (b34_0 al nl ml tl Kst Kret x hS hR x0 x1 h)
noncomputable def k34 : Con := ⟨34, [.one (.list [.int .u32])], fun (x : (Nat × Nat × Nat × (Nat → Int) × Unit) × Unit) => (fun (al nl ml : Nat) (tl : Nat → Int) => decide (al + nl ≤ ml ∧ nl ≤ 1000000 ∧ S.u32s nl (fun q => tl (q + al)) = true)) x.1.1 x.1.2.1 x.1.2.2.1 x.1.2.2.2.1, fun (x : (Nat × Nat × Nat × (Nat → Int) × Unit) × Unit) => (fun (al nl ml : Nat) (tl : Nat → Int) => (V34 al nl ml tl) (S.mdL nl (fun q => tl (q + al)))) x.1.1 x.1.2.1 x.1.2.2.1 x.1.2.2.2.1, fun (x : (Nat × Nat × Nat × (Nat → Int) × Unit) × Unit) => (fun (al nl ml : Nat) (tl : Nat → Int) => (N34 al nl ml tl) (S.mdL nl (fun q => tl (q + al)))) x.1.1 x.1.2.1 x.1.2.2.1 x.1.2.2.2.1, fun _ _ => .dead⟩
theorem s34' (al nl ml : Nat) (tl : Nat → Int) (hp : al + nl ≤ ml ∧ nl ≤ 1000000 ∧ S.u32s nl (fun q => tl (q + al)) = true) : ∀ (k i : Nat) (L : List (Int × Int × Int × Int)), i + k = (min nl 30) → Holds (L = S.mkl (i + 1) (S.mdn (fun q => tl (q + al)))) → Comes (q34 al nl ml tl) (.h0 (i : Int) L) (S.mkl (min nl 30 + 1) (S.mdn (fun q => tl (q + al)))) := by
  obtain ⟨hp1, hp2, hp3⟩ := hp
  have h0 := of_decide_eq_true hp3
  intro k
  induction k with
  | zero =>
    intro i L hi eL
    have hL : L.length = i + 1 := by rw [eL.get]; exact mkl_len
    apply Comes.of
    show Goes _ _ _
    (first | rw [q34] | unfold q34)
    repeat' first
      | with_reducible refine goes_if (fun h => ?_) (fun h => ?_) <;> (try simp only [lim64, decide_eq_true_eq, decide_eq_false_iff_not, Int.toNat_natCast, toNat_pred, toNat_succ, Option.getD_some, Option.getD_none, Bool.not_eq_true', Bool.not_eq_false', Bool.and_eq_true, Bool.or_eq_true, Bool.and_eq_false_iff, Bool.or_eq_false_iff, bne_iff_ne, beq_iff_eq, bne_eq_false_iff_eq, beq_eq_false_iff_ne, ne_eq, not_and, Int.not_le, Int.not_lt, ge_iff_le, gt_iff_lt, Nat.not_lt, Nat.not_le, Bool.not_eq_true, Bool.not_eq_false, Bool.true_eq_false, Bool.false_eq_true, not_false_eq_true, not_true_eq_false] at h)
      | exact goes_none.mpr (by omega)
    all_goals first | (exfalso; omega) | (obtain rfl : (min nl 30) = i := (by omega);  (first | exact goes_inr.mpr eL.get | (refine goes_inr.mpr ?_; rw [eL.get])))
  | succ k ih =>
    intro i L hi eL
    have hL : L.length = i + 1 := by rw [eL.get]; exact mkl_len
    have hc : 0 ≤ tl (i + al) ∧ tl (i + al) ≤ 4294967295 := h0 i (by omega)
    have h1 := tdv hc.1 (show (0 : Int) < 32 by decide)
    have h2 := tdv hc.1 (show (0 : Int) < 8192 by decide)
    have h3 := tdv hc.1 (show (0 : Int) < 2097152 by decide)
    have m1 := tmd h1.1 (show (0 : Int) < 256 by decide)
    have m2 := tmd h2.1 (show (0 : Int) < 256 by decide)
    apply Comes.of
    show Goes _ _ _
    (first | rw [q34] | unfold q34)
    repeat' first
      | with_reducible refine goes_if (fun h => ?_) (fun h => ?_) <;> (try simp only [lim64, decide_eq_true_eq, decide_eq_false_iff_not, Int.toNat_natCast, toNat_pred, toNat_succ, Option.getD_some, Option.getD_none, Bool.not_eq_true', Bool.not_eq_false', Bool.and_eq_true, Bool.or_eq_true, Bool.and_eq_false_iff, Bool.or_eq_false_iff, bne_iff_ne, beq_iff_eq, bne_eq_false_iff_eq, beq_eq_false_iff_ne, ne_eq, not_and, Int.not_le, Int.not_lt, ge_iff_le, gt_iff_lt, Nat.not_lt, Nat.not_le, Bool.not_eq_true, Bool.not_eq_false, Bool.true_eq_false, Bool.false_eq_true, not_false_eq_true, not_true_eq_false] at h)
      | exact goes_none.mpr (by omega)
    all_goals first
      | (exfalso; omega)
      | (refine ih (i + 1) _ (by omega) ⟨?_⟩; rw [mkl_succ, ← eL.get]; rfl)
      | (refine ih (i + 1) _ (by omega) ⟨?_⟩ <;> (skip))
theorem s34 (al nl ml : Nat) (tl : Nat → Int) (hp : al + nl ≤ ml ∧ nl ≤ 1000000 ∧ S.u32s nl (fun q => tl (q + al)) = true) : Goes ((q34 al nl ml tl)) ((p34 al nl ml tl)) (S.mdL nl (fun q => tl (q + al))) := by
  have hm := s34' al nl ml tl hp (min nl 30) 0 [(-1, 0, 0, 0)] (Nat.zero_add _) ⟨rfl⟩
  obtain ⟨hp1, hp2, hp3⟩ := hp
  show Goes _ _ _
  unfold p34
  repeat' first
    | with_reducible refine goes_if (fun h => ?_) (fun h => ?_) <;> (try simp only [lim64, decide_eq_true_eq, decide_eq_false_iff_not, Int.toNat_natCast, toNat_pred, toNat_succ, Option.getD_some, Option.getD_none, Bool.not_eq_true', Bool.not_eq_false', Bool.and_eq_true, Bool.or_eq_true, Bool.and_eq_false_iff, Bool.or_eq_false_iff, bne_iff_ne, beq_iff_eq, bne_eq_false_iff_eq, beq_eq_false_iff_ne, ne_eq, not_and, Int.not_le, Int.not_lt, ge_iff_le, gt_iff_lt, Nat.not_lt, Nat.not_le, Bool.not_eq_true, Bool.not_eq_false, Bool.true_eq_false, Bool.false_eq_true, not_false_eq_true, not_true_eq_false] at h)
    | exact goes_none.mpr (by omega)
  all_goals first | (exfalso; omega) | exact hm

theorem k34_ok : k34.ok Try.prog := by
  intro x hx
  obtain ⟨⟨al, nl, ml, tl, _⟩, _⟩ := x
  obtain ⟨h1, h2⟩ := a34 al nl ml tl (s34 al nl ml tl (of_dec hx rfl))
  exact ⟨⟨400, (by decide : 1 + 1 + 1 ≤ 400), h1⟩, h2⟩

end Go.Ev
