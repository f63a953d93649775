/-
  Is an order feasible? (its ends)
-/
import Derived.Test.YtamccaclkkgkbaaX0
import Derived.Test.YtamccaclkkgkbaaW3
namespace Go.Ev
open Go.Proofs
set_option linter.unusedVariables false
set_option linter.unusedSimpArgs false
set_option maxRecDepth 100000

theorem forE_ok {n : Int} {t v : Nat → Int} : ∀ {k i : Nat}, S.forE n t v i k = 0 → ∀ j, i ≤ j → j < i + k → 0 ≤ t j
  | 0, i, _, j, h1, h2 => by omega
  | k + 1, i, h, j, h1, h2 => by
    simp only [S.forE] at h
    split at h
    · rename_i hg
      split at h
      · cases h
      · rcases Nat.lt_or_ge i j with h3 | h3
        · exact forE_ok h j (by omega) (by omega)
        · obtain rfl : j = i := by omega
          exact hg.1
    · cases h
theorem tt_for {nc : Nat} {t v : Nat → ByteArray} {g : Nat → Int} {nn : Nat} {tn : Nat → Int} {ng : Nat} {tg vg : Nat → Int} {rc : Int} (h : S.ttE nc t v g nn tn ng tg vg rc = 0) : ∀ j, j < ng → 0 ≤ tg j := by
  unfold S.ttE at h
  obtain ⟨h1, h2⟩ := nz_0 h
  split at h2
  · obtain ⟨h3, h4⟩ := nz_0 h2
    split at h4
    · cases h4
    · obtain ⟨h5, h6⟩ := nz_0 h4
      exact fun j hj => forE_ok h5 j (Nat.zero_le _) (by omega)
  · cases h2
theorem forb_m1 {ng : Nat} {tg vg : Nat → Int} {c : Int} (h : ∀ j, j < ng → 0 ≤ tg j) : S.forb ng tg vg (-1) c = false := any_no.mpr fun j hj => by
  have := h j hj
  show (decide (tg j = -1) && _) = false
  rw [decide_eq_false (by omega)]; rfl
theorem max_0 {nc : Nat} {cs : List Int} (h : CsOk nc cs) (hn : 1 ≤ nc) : (S.maxN (fun j => S.at' cs j) (cs.length - 1) == 0) = true ↔ ∀ j, j < nc → S.at' cs j = 0 := by
  have hl := h.1
  rw [beq_iff_eq]
  constructor
  · intro e j hj
    have h1 : S.at' cs j ≤ 0 := maxN_le.mp (Int.le_of_eq e) j (by omega)
    have := h.2 j hj
    omega
  · intro e
    have h1 : S.maxN (fun j => S.at' cs j) (cs.length - 1) ≤ 0 := maxN_le.mpr fun j hj => Int.le_of_eq (e j (by omega))
    have h2 : S.at' cs 0 ≤ S.maxN (fun j => S.at' cs j) (cs.length - 1) := maxN_le.mp (Int.le_refl _) 0 (Nat.zero_le _)
    have := e 0 (by omega)
    omega
inductive St36 where
  | h0 (x0 : Int) (x1 : List Int)
  | h1 (x0 : Int) (x1 : List Int)
abbrev Rt36 := Bool
noncomputable def V36 (ac nc mc : Nat) (tc : Nat → ByteArray) (vc : Nat → ByteArray) (gc : Nat → Int) (wc : Nat → Bool) (an nn mn : Nat) (tn : Nat → Int) (ag ng mg : Nat) (tg : Nat → Int) (vg : Nat → Int) (rc : Int) (ao no mo : Nat) (to : Nat → Int) (r : Rt36) : PV := PV.bool r
noncomputable def N36 (ac nc mc : Nat) (tc : Nat → ByteArray) (vc : Nat → ByteArray) (gc : Nat → Int) (wc : Nat → Bool) (an nn mn : Nat) (tn : Nat → Int) (ag ng mg : Nat) (tg : Nat → Int) (vg : Nat → Int) (rc : Int) (ao no mo : Nat) (to : Nat → Int) (r : Rt36) : List Blk := []
noncomputable def I36 (ac nc mc : Nat) (tc : Nat → ByteArray) (vc : Nat → ByteArray) (gc : Nat → Int) (wc : Nat → Bool) (an nn mn : Nat) (tn : Nat → Int) (ag ng mg : Nat) (tg : Nat → Int) (vg : Nat → Int) (rc : Int) (ao no mo : Nat) (to : Nat → Int) : St36 → Hd
  | .h0 x0 x1 => ⟨hd Try.f36 0, [PV.loose (PA.mk (3) (1) ao (0)) no,
 PV.ptr (PA.mk (4) (0) (0) (0)),
 PV.own (5) (1) (List.length x1), PV.int IntKind.i64 x0, PV.unk], [[(4, (true, Blk.cells
 [PV.loose (PA.mk (0) (4) ac (0)) nc,
 PV.loose (PA.mk (1) (1) an (0)) nn,
 PV.loose (PA.mk (2) (2) ag (0)) ng, PV.int IntKind.i64 rc])), (5, (true, Blk.cols (List.length x1) [Col.int IntKind.i64 fun (j : Nat) => S.at' x1 j]))], [(0, (false, .cols mc [.str tc, .str vc, .int .i64 gc, .bool wc])), (1, (false, .cols mn [.int .i64 tn])), (2, (false, .cols mg [.int .i64 tg, .int .i64 vg])), (3, (false, .cols mo [.int .i64 to]))]], 6⟩
  | .h1 x0 x1 => ⟨hd Try.f36 1, [PV.unk, PV.ptr (PA.mk (4) (0) (0) (0)),
 PV.own (5) (1) (List.length x1), PV.unk, PV.int IntKind.i64 x0], [[(4, (true, Blk.cells
 [PV.loose (PA.mk (0) (4) ac (0)) nc,
 PV.loose (PA.mk (1) (1) an (0)) nn,
 PV.loose (PA.mk (2) (2) ag (0)) ng, PV.int IntKind.i64 rc])), (5, (true, Blk.cols (List.length x1) [Col.int IntKind.i64 fun (j : Nat) => S.at' x1 j]))], [(0, (false, .cols mc [.str tc, .str vc, .int .i64 gc, .bool wc])), (1, (false, .cols mn [.int .i64 tn])), (2, (false, .cols mg [.int .i64 tg, .int .i64 vg])), (3, (false, .cols mo [.int .i64 to]))]], 6⟩
noncomputable def q36 (ac nc mc : Nat) (tc : Nat → ByteArray) (vc : Nat → ByteArray) (gc : Nat → Int) (wc : Nat → Bool) (an nn mn : Nat) (tn : Nat → Int) (ag ng mg : Nat) (tg : Nat → Int) (vg : Nat → Int) (rc : Int) (ao no mo : Nat) (to : Nat → Int) : St36 → Option (St36 ⊕ Rt36)
  | .h0 x0 x1 => bif (decide (x0 < (↑no : Int)))
 then (bif (decide ((0 : Int) ≤ x0 ∧ x0 < (↑no : Int)))
 then (bif (decide (Int.toNat x0 + ao < mo))
 then (bif (lim IntKind.i64 ((↑(List.length x1) : Int) - (1 : Int)))
 then (bif (decide (to (Int.toNat x0 + ao) ≥ (0 : Int)))
 then (bif (decide (to (Int.toNat x0 + ao) ≤ (↑(List.length x1) : Int) - (1 : Int)))
 then (bif (decide (x0 > (0 : Int)))
 then (bif (lim IntKind.i64 (x0 - (1 : Int)))
 then (bif (decide ((0 : Int) ≤ x0 - (1 : Int) ∧ x0 - (1 : Int) < (↑no : Int)))
 then (bif (decide (Int.toNat (x0 - (1 : Int)) + ao < mo))
 then (bif (decide (ag + ng ≤ mg ∧ ng ≤ 1000))
 then (bif (S.forb ng (fun (j : Nat) => tg (j + ag)) (fun (j : Nat) => vg (j + ag)) (to (Int.toNat (x0 - (1 : Int)) + ao))
 (to (Int.toNat x0 + ao)))
 then (some (.inr (false)))
 else (bif (decide ((0 : Int) ≤ to (Int.toNat x0 + ao) ∧ to (Int.toNat x0 + ao) < (↑(List.length x1) : Int)))
 then (bif (decide (Int.toNat (to (Int.toNat x0 + ao)) < List.length x1))
 then (bif (lim IntKind.i64 (S.at' x1 (Int.toNat (to (Int.toNat x0 + ao))) + (1 : Int)))
 then (bif (lim IntKind.i64 (x0 + (1 : Int)))
 then (some (.inl (.h0 (x0 + (1 : Int)) (S.mkl (List.length x1) fun (j : Nat) =>
 bif Nat.beq j (Int.toNat (to (Int.toNat x0 + ao))) then
 S.at' x1 (Int.toNat (to (Int.toNat x0 + ao))) + (1 : Int)
 else S.at' x1 j))))
 else (none))
 else (none))
 else (none))
 else (none)))
 else (none))
 else (none))
 else (none))
 else (none))
 else (bif (decide ((0 : Int) ≤ to (Int.toNat x0 + ao) ∧ to (Int.toNat x0 + ao) < (↑(List.length x1) : Int)))
 then (bif (decide (Int.toNat (to (Int.toNat x0 + ao)) < List.length x1))
 then (bif (lim IntKind.i64 (S.at' x1 (Int.toNat (to (Int.toNat x0 + ao))) + (1 : Int)))
 then (bif (lim IntKind.i64 (x0 + (1 : Int)))
 then (some (.inl (.h0 (x0 + (1 : Int)) (S.mkl (List.length x1) fun (j : Nat) =>
 bif Nat.beq j (Int.toNat (to (Int.toNat x0 + ao))) then
 S.at' x1 (Int.toNat (to (Int.toNat x0 + ao))) + (1 : Int)
 else S.at' x1 j))))
 else (none))
 else (none))
 else (none))
 else (none)))
 else (some (.inr (false))))
 else (some (.inr (false))))
 else (none))
 else (none))
 else (none))
 else (some (.inl (.h1 ((0 : Int)) (x1))))
  | .h1 x0 x1 => bif (decide (x0 < (↑(List.length x1) : Int)))
 then (bif (decide ((0 : Int) ≤ x0 ∧ x0 < (↑(List.length x1) : Int)))
 then (bif (decide (Int.toNat x0 < List.length x1))
 then (bif (decide ((0 : Int) ≤ x0 ∧ x0 < (↑nn : Int)))
 then (bif (decide (Int.toNat x0 + an < mn))
 then (bif (S.at' x1 (Int.toNat x0) != tn (Int.toNat x0 + an))
 then (some (.inr (false)))
 else (bif (lim IntKind.i64 (x0 + (1 : Int)))
 then (some (.inl (.h1 (x0 + (1 : Int)) (x1))))
 else (none)))
 else (none))
 else (none))
 else (none))
 else (none))
 else (some (.inr (true)))
noncomputable def p36 (ac nc mc : Nat) (tc : Nat → ByteArray) (vc : Nat → ByteArray) (gc : Nat → Int) (wc : Nat → Bool) (an nn mn : Nat) (tn : Nat → Int) (ag ng mg : Nat) (tg : Nat → Int) (vg : Nat → Int) (rc : Int) (ao no mo : Nat) (to : Nat → Int) : Option (St36 ⊕ Rt36) := bif (decide ((0 : Int) ≤ (↑nc : Int) ∧ (↑nc : Int) ≤ (↑nc : Int) ∧ (↑nc : Int) ≤ (1000000 : Int)))
 then (some (.inl (.h0 ((0 : Int)) (S.mkl nc fun (j : Nat) => (0 : Int)))))
 else (none)
noncomputable def Te36 (test : Bool → Prop → Prop → Prop) (Kst : KS) (Kret : KR) (ac nc mc : Nat) (tc : Nat → ByteArray) (vc : Nat → ByteArray) (gc : Nat → Int) (wc : Nat → Bool) (an nn mn : Nat) (tn : Nat → Int) (ag ng mg : Nat) (tg : Nat → Int) (vg : Nat → Int) (rc : Int) (ao no mo : Nat) (to : Nat → Int) : Prop :=
  test (decide ((0 : Int) ≤ (↑nc : Int) ∧ (↑nc : Int) ≤ (↑nc : Int) ∧ (↑nc : Int) ≤ (1000000 : Int)))
 (Kst (hd Try.f36 0) ([PV.loose (PA.mk (3) (1) ao (0)) no,
 PV.ptr (PA.mk (4) (0) (0) (0)), PV.own (5) (1) nc,
 PV.int IntKind.i64 (0 : Int), PV.unk]) ([[(3, false, Blk.cols mo [Col.int IntKind.i64 to]),
 (2, false, Blk.cols mg [Col.int IntKind.i64 tg, Col.int IntKind.i64 vg]),
 (1, false, Blk.cols mn [Col.int IntKind.i64 tn]),
 (0, false,
 Blk.cols mc [Col.str tc, Col.str vc, Col.int IntKind.i64 gc, Col.bool wc]),
 (5, true, Blk.cols nc [Col.int IntKind.i64 fun (x : Nat) => (0 : Int)]),
 (4, true,
 Blk.cells
 [PV.loose (PA.mk (0) (4) ac (0)) nc,
 PV.loose (PA.mk (1) (1) an (0)) nn,
 PV.loose (PA.mk (2) (2) ag (0)) ng, PV.int IntKind.i64 rc])]]) (6))
 (False)
set_option maxRecDepth 100000 in
theorem te36 (test : Bool → Prop → Prop → Prop) (Kst : KS) (Kret : KR) (ac nc mc : Nat) (tc : Nat → ByteArray) (vc : Nat → ByteArray) (gc : Nat → Int) (wc : Nat → Bool) (an nn mn : Nat) (tn : Nat → Int) (ag ng mg : Nat) (tg : Nat → Int) (vg : Nat → Int) (rc : Int) (ao no mo : Nat) (to : Nat → Int) : run test Try.env true (xD test) true 400 ⟨36, [.cd (mkFn Try.f36).body], argT 0 [.agg [.loose ⟨0, 4, ac, 0⟩ nc, .loose ⟨1, 1, an, 0⟩ nn, .loose ⟨2, 2, ag, 0⟩ ng, .int .i64 rc], .loose ⟨3, 1, ao, 0⟩ no], [[], [(0, (false, .cols mc [.str tc, .str vc, .int .i64 gc, .bool wc])), (1, (false, .cols mn [.int .i64 tn])), (2, (false, .cols mg [.int .i64 tg, .int .i64 vg])), (3, (false, .cols mo [.int .i64 to]))]], 4⟩ (proj 4 [1, 2, 5, 6, 7] Kst Kret) =
  Te36 test Kst Kret ac nc mc tc vc gc wc an nn mn tn ag ng mg tg vg rc ao no mo to := by kernel_rfl
noncomputable def T36_0 (test : Bool → Prop → Prop → Prop) (Kst : KS) (Kret : KR) (ac nc mc : Nat) (tc : Nat → ByteArray) (vc : Nat → ByteArray) (gc : Nat → Int) (wc : Nat → Bool) (an nn mn : Nat) (tn : Nat → Int) (ag ng mg : Nat) (tg : Nat → Int) (vg : Nat → Int) (rc : Int) (ao no mo : Nat) (to : Nat → Int) (x0 : Int) (x1 : List Int) : Prop :=
  test (decide (x0 < (↑no : Int)))
 (test (decide ((0 : Int) ≤ x0 ∧ x0 < (↑no : Int)))
 (test (decide (Int.toNat x0 + ao < mo))
 (test (lim IntKind.i64 ((↑(List.length x1) : Int) - (1 : Int)))
 (test (decide (to (Int.toNat x0 + ao) ≥ (0 : Int)))
 (test (decide (to (Int.toNat x0 + ao) ≤ (↑(List.length x1) : Int) - (1 : Int)))
 (test (decide (x0 > (0 : Int)))
 (test (lim IntKind.i64 (x0 - (1 : Int)))
 (test (decide ((0 : Int) ≤ x0 - (1 : Int) ∧ x0 - (1 : Int) < (↑no : Int)))
 (test (decide (Int.toNat (x0 - (1 : Int)) + ao < mo))
 (test (decide ((0 : Int) ≤ x0 ∧ x0 < (↑no : Int)))
 (test (decide (Int.toNat x0 + ao < mo))
 (test (decide (ag + ng ≤ mg ∧ ng ≤ 1000))
 (test (S.forb ng (fun (j : Nat) => tg (j + ag)) (fun (j : Nat) => vg (j + ag)) (to (Int.toNat (x0 - (1 : Int)) + ao))
 (to (Int.toNat x0 + ao)))
 (Kret (PV.tf false) ([[(3, false, Blk.cols mo [Col.int IntKind.i64 to]),
 (2, false, Blk.cols mg [Col.int IntKind.i64 tg, Col.int IntKind.i64 vg]),
 (1, false, Blk.cols mn [Col.int IntKind.i64 tn]),
 (0, false,
 Blk.cols mc [Col.str tc, Col.str vc, Col.int IntKind.i64 gc, Col.bool wc])]]) (7))
 (test (decide ((0 : Int) ≤ x0 ∧ x0 < (↑no : Int)))
 (test (decide (Int.toNat x0 + ao < mo))
 (test (decide ((0 : Int) ≤ to (Int.toNat x0 + ao) ∧ to (Int.toNat x0 + ao) < (↑(List.length x1) : Int)))
 (test (decide (Int.toNat (to (Int.toNat x0 + ao)) < List.length x1))
 (test (lim IntKind.i64 (S.at' x1 (Int.toNat (to (Int.toNat x0 + ao))) + (1 : Int)))
 (test (decide ((0 : Int) ≤ to (Int.toNat x0 + ao) ∧ to (Int.toNat x0 + ao) < (↑(List.length x1) : Int)))
 (test (decide (Int.toNat (to (Int.toNat x0 + ao)) < List.length x1))
 (test (lim IntKind.i64 (x0 + (1 : Int)))
 (Kst (hd Try.f36 0) ([PV.loose (PA.mk (3) (1) ao (0)) no,
 PV.ptr (PA.mk (4) (0) (0) (0)),
 PV.own (5) (1) (List.length x1), PV.int IntKind.i64 (x0 + (1 : Int)), PV.unk]) ([[(3, false, Blk.cols mo [Col.int IntKind.i64 to]),
 (2, false, Blk.cols mg [Col.int IntKind.i64 tg, Col.int IntKind.i64 vg]),
 (1, false, Blk.cols mn [Col.int IntKind.i64 tn]),
 (0, false,
 Blk.cols mc [Col.str tc, Col.str vc, Col.int IntKind.i64 gc, Col.bool wc]),
 (5, true,
 Blk.cols (List.length x1)
 [Col.int IntKind.i64 fun (j : Nat) =>
 bif Nat.beq j (Int.toNat (to (Int.toNat x0 + ao))) then
 S.at' x1 (Int.toNat (to (Int.toNat x0 + ao))) + (1 : Int)
 else S.at' x1 j]),
 (4, true,
 Blk.cells
 [PV.loose (PA.mk (0) (4) ac (0)) nc,
 PV.loose (PA.mk (1) (1) an (0)) nn,
 PV.loose (PA.mk (2) (2) ag (0)) ng, PV.int IntKind.i64 rc])]]) (7))
 (False))
 (False))
 (False))
 (False))
 (False))
 (False))
 (False))
 (False)))
 (False))
 (False))
 (False))
 (False))
 (False))
 (False))
 (test (decide ((0 : Int) ≤ x0 ∧ x0 < (↑no : Int)))
 (test (decide (Int.toNat x0 + ao < mo))
 (test (decide ((0 : Int) ≤ to (Int.toNat x0 + ao) ∧ to (Int.toNat x0 + ao) < (↑(List.length x1) : Int)))
 (test (decide (Int.toNat (to (Int.toNat x0 + ao)) < List.length x1))
 (test (lim IntKind.i64 (S.at' x1 (Int.toNat (to (Int.toNat x0 + ao))) + (1 : Int)))
 (test (decide ((0 : Int) ≤ to (Int.toNat x0 + ao) ∧ to (Int.toNat x0 + ao) < (↑(List.length x1) : Int)))
 (test (decide (Int.toNat (to (Int.toNat x0 + ao)) < List.length x1))
 (test (lim IntKind.i64 (x0 + (1 : Int)))
 (Kst (hd Try.f36 0) ([PV.loose (PA.mk (3) (1) ao (0)) no,
 PV.ptr (PA.mk (4) (0) (0) (0)),
 PV.own (5) (1) (List.length x1), PV.int IntKind.i64 (x0 + (1 : Int)), PV.unk]) ([[(3, false, Blk.cols mo [Col.int IntKind.i64 to]),
 (2, false, Blk.cols mg [Col.int IntKind.i64 tg, Col.int IntKind.i64 vg]),
 (1, false, Blk.cols mn [Col.int IntKind.i64 tn]),
 (0, false,
 Blk.cols mc [Col.str tc, Col.str vc, Col.int IntKind.i64 gc, Col.bool wc]),
 (5, true,
 Blk.cols (List.length x1)
 [Col.int IntKind.i64 fun (j : Nat) =>
 bif Nat.beq j (Int.toNat (to (Int.toNat x0 + ao))) then
 S.at' x1 (Int.toNat (to (Int.toNat x0 + ao))) + (1 : Int)
 else S.at' x1 j]),
 (4, true,
 Blk.cells
 [PV.loose (PA.mk (0) (4) ac (0)) nc,
 PV.loose (PA.mk (1) (1) an (0)) nn,
 PV.loose (PA.mk (2) (2) ag (0)) ng, PV.int IntKind.i64 rc])]]) (6))
 (False))
 (False))
 (False))
 (False))
 (False))
 (False))
 (False))
 (False)))
 (Kret (PV.tf false) ([[(3, false, Blk.cols mo [Col.int IntKind.i64 to]),
 (2, false, Blk.cols mg [Col.int IntKind.i64 tg, Col.int IntKind.i64 vg]),
 (1, false, Blk.cols mn [Col.int IntKind.i64 tn]),
 (0, false,
 Blk.cols mc [Col.str tc, Col.str vc, Col.int IntKind.i64 gc, Col.bool wc])]]) (6)))
 (Kret (PV.tf false) ([[(3, false, Blk.cols mo [Col.int IntKind.i64 to]),
 (2, false, Blk.cols mg [Col.int IntKind.i64 tg, Col.int IntKind.i64 vg]),
 (1, false, Blk.cols mn [Col.int IntKind.i64 tn]),
 (0, false,
 Blk.cols mc [Col.str tc, Col.str vc, Col.int IntKind.i64 gc, Col.bool wc])]]) (6)))
 (False))
 (False))
 (False))
 (Kst (hd Try.f36 1) ([PV.loose (PA.mk (3) (1) ao (0)) no,
 PV.ptr (PA.mk (4) (0) (0) (0)),
 PV.own (5) (1) (List.length x1), PV.int IntKind.i64 x0,
 PV.int IntKind.i64 (0 : Int)]) ([[(3, false, Blk.cols mo [Col.int IntKind.i64 to]),
 (2, false, Blk.cols mg [Col.int IntKind.i64 tg, Col.int IntKind.i64 vg]),
 (1, false, Blk.cols mn [Col.int IntKind.i64 tn]),
 (0, false,
 Blk.cols mc [Col.str tc, Col.str vc, Col.int IntKind.i64 gc, Col.bool wc]),
 (5, true,
 Blk.cols (List.length x1) [Col.int IntKind.i64 fun (j : Nat) => S.at' x1 j]),
 (4, true,
 Blk.cells
 [PV.loose (PA.mk (0) (4) ac (0)) nc,
 PV.loose (PA.mk (1) (1) an (0)) nn,
 PV.loose (PA.mk (2) (2) ag (0)) ng, PV.int IntKind.i64 rc])]]) (6))
set_option maxRecDepth 100000 in
theorem t36_0 (test : Bool → Prop → Prop → Prop) (Kst : KS) (Kret : KR) (ac nc mc : Nat) (tc : Nat → ByteArray) (vc : Nat → ByteArray) (gc : Nat → Int) (wc : Nat → Bool) (an nn mn : Nat) (tn : Nat → Int) (ag ng mg : Nat) (tg : Nat → Int) (vg : Nat → Int) (rc : Int) (ao no mo : Nat) (to : Nat → Int) (x0 : Int) (x1 : List Int) : run test Try.env true (xD test) true 400 ⟨36, hd Try.f36 0, zipT [1, 2, 5, 6, 7] [PV.loose (PA.mk (3) (1) ao (0)) no,
 PV.ptr (PA.mk (4) (0) (0) (0)),
 PV.own (5) (1) (List.length x1), PV.int IntKind.i64 x0, PV.unk], [[(4, (true, Blk.cells
 [PV.loose (PA.mk (0) (4) ac (0)) nc,
 PV.loose (PA.mk (1) (1) an (0)) nn,
 PV.loose (PA.mk (2) (2) ag (0)) ng, PV.int IntKind.i64 rc])), (5, (true, Blk.cols (List.length x1) [Col.int IntKind.i64 fun (j : Nat) => S.at' x1 j]))], [(0, (false, .cols mc [.str tc, .str vc, .int .i64 gc, .bool wc])), (1, (false, .cols mn [.int .i64 tn])), (2, (false, .cols mg [.int .i64 tg, .int .i64 vg])), (3, (false, .cols mo [.int .i64 to]))]], 6⟩ (proj 4 [1, 2, 5, 6, 7] Kst Kret) =
  T36_0 test Kst Kret ac nc mc tc vc gc wc an nn mn tn ag ng mg tg vg rc ao no mo to x0 x1 := by kernel_rfl
noncomputable def T36_1 (test : Bool → Prop → Prop → Prop) (Kst : KS) (Kret : KR) (ac nc mc : Nat) (tc : Nat → ByteArray) (vc : Nat → ByteArray) (gc : Nat → Int) (wc : Nat → Bool) (an nn mn : Nat) (tn : Nat → Int) (ag ng mg : Nat) (tg : Nat → Int) (vg : Nat → Int) (rc : Int) (ao no mo : Nat) (to : Nat → Int) (x0 : Int) (x1 : List Int) : Prop :=
  test (decide (x0 < (↑(List.length x1) : Int)))
 (test (decide ((0 : Int) ≤ x0 ∧ x0 < (↑(List.length x1) : Int)))
 (test (decide (Int.toNat x0 < List.length x1))
 (test (decide ((0 : Int) ≤ x0 ∧ x0 < (↑nn : Int)))
 (test (decide (Int.toNat x0 + an < mn))
 (test (S.at' x1 (Int.toNat x0) != tn (Int.toNat x0 + an))
 (Kret (PV.tf false) ([[(3, false, Blk.cols mo [Col.int IntKind.i64 to]),
 (2, false, Blk.cols mg [Col.int IntKind.i64 tg, Col.int IntKind.i64 vg]),
 (1, false, Blk.cols mn [Col.int IntKind.i64 tn]),
 (0, false,
 Blk.cols mc [Col.str tc, Col.str vc, Col.int IntKind.i64 gc, Col.bool wc])]]) (6))
 (test (lim IntKind.i64 (x0 + (1 : Int)))
 (Kst (hd Try.f36 1) ([PV.unk, PV.ptr (PA.mk (4) (0) (0) (0)),
 PV.own (5) (1) (List.length x1), PV.unk, PV.int IntKind.i64 (x0 + (1 : Int))]) ([[(3, false, Blk.cols mo [Col.int IntKind.i64 to]),
 (2, false, Blk.cols mg [Col.int IntKind.i64 tg, Col.int IntKind.i64 vg]),
 (1, false, Blk.cols mn [Col.int IntKind.i64 tn]),
 (0, false,
 Blk.cols mc [Col.str tc, Col.str vc, Col.int IntKind.i64 gc, Col.bool wc]),
 (5, true,
 Blk.cols (List.length x1) [Col.int IntKind.i64 fun (j : Nat) => S.at' x1 j]),
 (4, true,
 Blk.cells
 [PV.loose (PA.mk (0) (4) ac (0)) nc,
 PV.loose (PA.mk (1) (1) an (0)) nn,
 PV.loose (PA.mk (2) (2) ag (0)) ng, PV.int IntKind.i64 rc])]]) (6))
 (False)))
 (False))
 (False))
 (False))
 (False))
 (Kret (PV.tf true) ([[(3, false, Blk.cols mo [Col.int IntKind.i64 to]),
 (2, false, Blk.cols mg [Col.int IntKind.i64 tg, Col.int IntKind.i64 vg]),
 (1, false, Blk.cols mn [Col.int IntKind.i64 tn]),
 (0, false,
 Blk.cols mc [Col.str tc, Col.str vc, Col.int IntKind.i64 gc, Col.bool wc])]]) (6))
set_option maxRecDepth 100000 in
theorem t36_1 (test : Bool → Prop → Prop → Prop) (Kst : KS) (Kret : KR) (ac nc mc : Nat) (tc : Nat → ByteArray) (vc : Nat → ByteArray) (gc : Nat → Int) (wc : Nat → Bool) (an nn mn : Nat) (tn : Nat → Int) (ag ng mg : Nat) (tg : Nat → Int) (vg : Nat → Int) (rc : Int) (ao no mo : Nat) (to : Nat → Int) (x0 : Int) (x1 : List Int) : run test Try.env true (xD test) true 400 ⟨36, hd Try.f36 1, zipT [1, 2, 5, 6, 7] [PV.unk, PV.ptr (PA.mk (4) (0) (0) (0)),
 PV.own (5) (1) (List.length x1), PV.unk, PV.int IntKind.i64 x0], [[(4, (true, Blk.cells
 [PV.loose (PA.mk (0) (4) ac (0)) nc,
 PV.loose (PA.mk (1) (1) an (0)) nn,
 PV.loose (PA.mk (2) (2) ag (0)) ng, PV.int IntKind.i64 rc])), (5, (true, Blk.cols (List.length x1) [Col.int IntKind.i64 fun (j : Nat) => S.at' x1 j]))], [(0, (false, .cols mc [.str tc, .str vc, .int .i64 gc, .bool wc])), (1, (false, .cols mn [.int .i64 tn])), (2, (false, .cols mg [.int .i64 tg, .int .i64 vg])), (3, (false, .cols mo [.int .i64 to]))]], 6⟩ (proj 4 [1, 2, 5, 6, 7] Kst Kret) =
  T36_1 test Kst Kret ac nc mc tc vc gc wc an nn mn tn ag ng mg tg vg rc ao no mo to x0 x1 := by kernel_rfl
attribute [local irreducible] Int.subNatNat in
set_option maxRecDepth 100000 in
theorem be36 (ac nc mc : Nat) (tc : Nat → ByteArray) (vc : Nat → ByteArray) (gc : Nat → Int) (wc : Nat → Bool) (an nn mn : Nat) (tn : Nat → Int) (ag ng mg : Nat) (tg : Nat → Int) (vg : Nat → Int) (rc : Int) (ao no mo : Nat) (to : Nat → Int) (Kst : KS) (Kret : KR) (x : St36 ⊕ Rt36) (hS : HS 4 400 ((I36 ac nc mc tc vc gc wc an nn mn tn ag ng mg tg vg rc ao no mo to)) Kst x) (hR : HR 4 400 ((V36 ac nc mc tc vc gc wc an nn mn tn ag ng mg tg vg rc ao no mo to)) (fun r => [newL (4 + 1) ((N36 ac nc mc tc vc gc wc an nn mn tn ag ng mg tg vg rc ao no mo to) r) ++ [(0, (false, .cols mc [.str tc, .str vc, .int .i64 gc, .bool wc])), (1, (false, .cols mn [.int .i64 tn])), (2, (false, .cols mg [.int .i64 tg, .int .i64 vg])), (3, (false, .cols mo [.int .i64 to]))]]) Kret x) (h : (bif (decide ((0 : Int) ≤ (↑nc : Int) ∧ (↑nc : Int) ≤ (↑nc : Int) ∧ (↑nc : Int) ≤ (1000000 : Int)))
 then (some (.inl (.h0 ((0 : Int)) (S.mkl nc fun (j : Nat) => (0 : Int)))))
 else (none) : Option (St36 ⊕ Rt36)) = some x) : Te36 cond Kst Kret ac nc mc tc vc gc wc an nn mn tn ag ng mg tg vg rc ao no mo to := by
  unfold Te36
  exact bif_split h
   (fun c0 h => stop_at hS _ h (fun n => bif Nat.beq n 4 then 4 else bif Nat.beq n 5 then 5 else n) rfl rfl rfl ⟨(rn_loose (use_lo rfl) rfl rfl rfl), ⟨(rn_ptr (use_own rfl) rfl rfl), ⟨(rn_own (use_own rfl) rfl mkl_len), ⟨(rn_int rfl), ⟨(rn_unk _), trivial⟩⟩⟩⟩⟩ rfl (entl_b (use_own rfl) rfl (by simp) (rb_cells ⟨(rn_loose (use_lo rfl) rfl rfl rfl), (rn_loose (use_lo rfl) rfl rfl rfl), (rn_loose (use_lo rfl) rfl rfl rfl), (rn_int rfl), trivial⟩) (entl_new (use_own rfl) rfl (Nat.le_of_eq mkl_len) (rcs_int (fun _ hj => col_mkl (fun (t : Int) => t) hj) rcs_nil) (entl_bor (use_lo rfl) rfl rfl (entl_bor (use_lo rfl) rfl rfl (entl_bor (use_lo rfl) rfl rfl (entl_bor (use_lo rfl) rfl rfl entl_nil)))))))
   (fun c0 h => no_some h)
attribute [local irreducible] Int.subNatNat in
set_option maxRecDepth 100000 in
theorem b36_0 (ac nc mc : Nat) (tc : Nat → ByteArray) (vc : Nat → ByteArray) (gc : Nat → Int) (wc : Nat → Bool) (an nn mn : Nat) (tn : Nat → Int) (ag ng mg : Nat) (tg : Nat → Int) (vg : Nat → Int) (rc : Int) (ao no mo : Nat) (to : Nat → Int) (Kst : KS) (Kret : KR) (x : St36 ⊕ Rt36) (hS : HS 4 400 ((I36 ac nc mc tc vc gc wc an nn mn tn ag ng mg tg vg rc ao no mo to)) Kst x) (hR : HR 4 400 ((V36 ac nc mc tc vc gc wc an nn mn tn ag ng mg tg vg rc ao no mo to)) (fun r => [newL (4 + 1) ((N36 ac nc mc tc vc gc wc an nn mn tn ag ng mg tg vg rc ao no mo to) r) ++ [(0, (false, .cols mc [.str tc, .str vc, .int .i64 gc, .bool wc])), (1, (false, .cols mn [.int .i64 tn])), (2, (false, .cols mg [.int .i64 tg, .int .i64 vg])), (3, (false, .cols mo [.int .i64 to]))]]) Kret x) (x0 : Int) (x1 : List Int) (h : (bif (decide (x0 < (↑no : Int)))
 then (bif (decide ((0 : Int) ≤ x0 ∧ x0 < (↑no : Int)))
 then (bif (decide (Int.toNat x0 + ao < mo))
 then (bif (lim IntKind.i64 ((↑(List.length x1) : Int) - (1 : Int)))
 then (bif (decide (to (Int.toNat x0 + ao) ≥ (0 : Int)))
 then (bif (decide (to (Int.toNat x0 + ao) ≤ (↑(List.length x1) : Int) - (1 : Int)))
 then (bif (decide (x0 > (0 : Int)))
 then (bif (lim IntKind.i64 (x0 - (1 : Int)))
 then (bif (decide ((0 : Int) ≤ x0 - (1 : Int) ∧ x0 - (1 : Int) < (↑no : Int)))
 then (bif (decide (Int.toNat (x0 - (1 : Int)) + ao < mo))
 then (bif (decide (ag + ng ≤ mg ∧ ng ≤ 1000))
 then (bif (S.forb ng (fun (j : Nat) => tg (j + ag)) (fun (j : Nat) => vg (j + ag)) (to (Int.toNat (x0 - (1 : Int)) + ao))
 (to (Int.toNat x0 + ao)))
 then (some (.inr (false)))
 else (bif (decide ((0 : Int) ≤ to (Int.toNat x0 + ao) ∧ to (Int.toNat x0 + ao) < (↑(List.length x1) : Int)))
 then (bif (decide (Int.toNat (to (Int.toNat x0 + ao)) < List.length x1))
 then (bif (lim IntKind.i64 (S.at' x1 (Int.toNat (to (Int.toNat x0 + ao))) + (1 : Int)))
 then (bif (lim IntKind.i64 (x0 + (1 : Int)))
 then (some (.inl (.h0 (x0 + (1 : Int)) (S.mkl (List.length x1) fun (j : Nat) =>
 bif Nat.beq j (Int.toNat (to (Int.toNat x0 + ao))) then
 S.at' x1 (Int.toNat (to (Int.toNat x0 + ao))) + (1 : Int)
 else S.at' x1 j))))
 else (none))
 else (none))
 else (none))
 else (none)))
 else (none))
 else (none))
 else (none))
 else (none))
 else (bif (decide ((0 : Int) ≤ to (Int.toNat x0 + ao) ∧ to (Int.toNat x0 + ao) < (↑(List.length x1) : Int)))
 then (bif (decide (Int.toNat (to (Int.toNat x0 + ao)) < List.length x1))
 then (bif (lim IntKind.i64 (S.at' x1 (Int.toNat (to (Int.toNat x0 + ao))) + (1 : Int)))
 then (bif (lim IntKind.i64 (x0 + (1 : Int)))
 then (some (.inl (.h0 (x0 + (1 : Int)) (S.mkl (List.length x1) fun (j : Nat) =>
 bif Nat.beq j (Int.toNat (to (Int.toNat x0 + ao))) then
 S.at' x1 (Int.toNat (to (Int.toNat x0 + ao))) + (1 : Int)
 else S.at' x1 j))))
 else (none))
 else (none))
 else (none))
 else (none)))
 else (some (.inr (false))))
 else (some (.inr (false))))
 else (none))
 else (none))
 else (none))
 else (some (.inl (.h1 ((0 : Int)) (x1)))) : Option (St36 ⊕ Rt36)) = some x) : T36_0 cond Kst Kret ac nc mc tc vc gc wc an nn mn tn ag ng mg tg vg rc ao no mo to x0 x1 := by
  unfold T36_0
  exact bif_split h
   (fun c0 h => bif_split h
   (fun c1 h => bif_split h
   (fun c2 h => bif_split h
   (fun c3 h => bif_split h
   (fun c4 h => bif_split h
   (fun c5 h => bif_split h
   (fun c6 h => bif_split h
   (fun c7 h => bif_split h
   (fun c8 h => bif_split h
   (fun c9 h => cond_yes c1 (cond_yes c2 (bif_split h
   (fun c10 h => bif_split h
   (fun c11 h => ret_at hR _ h (fun n => n) rfl rfl rfl (rn_bool_tf rfl) rfl (entl_bor (use_lo rfl) rfl rfl (entl_bor (use_lo rfl) rfl rfl (entl_bor (use_lo rfl) rfl rfl (entl_bor (use_lo rfl) rfl rfl entl_nil)))))
   (fun c11 h => cond_yes c1 (cond_yes c2 (bif_split h
   (fun c12 h => bif_split h
   (fun c13 h => bif_split h
   (fun c14 h => cond_yes c12 (cond_yes c13 (bif_split h
   (fun c15 h => stop_at hS _ h (fun n => bif Nat.beq n 4 then 4 else bif Nat.beq n 5 then 5 else n) rfl rfl rfl ⟨(rn_loose (use_lo rfl) rfl rfl rfl), ⟨(rn_ptr (use_own rfl) rfl rfl), ⟨(rn_own (use_own rfl) rfl mkl_len), ⟨(rn_int rfl), ⟨(rn_unk _), trivial⟩⟩⟩⟩⟩ rfl (entl_b (use_own rfl) rfl (by simp) (rb_cells ⟨(rn_loose (use_lo rfl) rfl rfl rfl), (rn_loose (use_lo rfl) rfl rfl rfl), (rn_loose (use_lo rfl) rfl rfl rfl), (rn_int rfl), trivial⟩) (entl_new (use_own rfl) rfl (Nat.le_of_eq mkl_len) (rcs_int (fun _ hj => col_mkl (fun (t : Int) => t) hj) rcs_nil) (entl_bor (use_lo rfl) rfl rfl (entl_bor (use_lo rfl) rfl rfl (entl_bor (use_lo rfl) rfl rfl (entl_bor (use_lo rfl) rfl rfl entl_nil)))))))
   (fun c15 h => no_some h))))
   (fun c14 h => no_some h))
   (fun c13 h => no_some h))
   (fun c12 h => no_some h)))))
   (fun c10 h => no_some h))))
   (fun c9 h => no_some h))
   (fun c8 h => no_some h))
   (fun c7 h => no_some h))
   (fun c6 h => cond_yes c1 (cond_yes c2 (bif_split h
   (fun c7 h => bif_split h
   (fun c8 h => bif_split h
   (fun c9 h => cond_yes c7 (cond_yes c8 (bif_split h
   (fun c10 h => stop_at hS _ h (fun n => bif Nat.beq n 4 then 4 else bif Nat.beq n 5 then 5 else n) rfl rfl rfl ⟨(rn_loose (use_lo rfl) rfl rfl rfl), ⟨(rn_ptr (use_own rfl) rfl rfl), ⟨(rn_own (use_own rfl) rfl mkl_len), ⟨(rn_int rfl), ⟨(rn_unk _), trivial⟩⟩⟩⟩⟩ rfl (entl_b (use_own rfl) rfl (by simp) (rb_cells ⟨(rn_loose (use_lo rfl) rfl rfl rfl), (rn_loose (use_lo rfl) rfl rfl rfl), (rn_loose (use_lo rfl) rfl rfl rfl), (rn_int rfl), trivial⟩) (entl_new (use_own rfl) rfl (Nat.le_of_eq mkl_len) (rcs_int (fun _ hj => col_mkl (fun (t : Int) => t) hj) rcs_nil) (entl_bor (use_lo rfl) rfl rfl (entl_bor (use_lo rfl) rfl rfl (entl_bor (use_lo rfl) rfl rfl (entl_bor (use_lo rfl) rfl rfl entl_nil)))))))
   (fun c10 h => no_some h))))
   (fun c9 h => no_some h))
   (fun c8 h => no_some h))
   (fun c7 h => no_some h)))))
   (fun c5 h => ret_at hR _ h (fun n => n) rfl rfl rfl (rn_bool_tf rfl) rfl (entl_bor (use_lo rfl) rfl rfl (entl_bor (use_lo rfl) rfl rfl (entl_bor (use_lo rfl) rfl rfl (entl_bor (use_lo rfl) rfl rfl entl_nil))))))
   (fun c4 h => ret_at hR _ h (fun n => n) rfl rfl rfl (rn_bool_tf rfl) rfl (entl_bor (use_lo rfl) rfl rfl (entl_bor (use_lo rfl) rfl rfl (entl_bor (use_lo rfl) rfl rfl (entl_bor (use_lo rfl) rfl rfl entl_nil))))))
   (fun c3 h => no_some h))
   (fun c2 h => no_some h))
   (fun c1 h => no_some h))
   (fun c0 h => stop_at hS _ h (fun n => bif Nat.beq n 4 then 4 else bif Nat.beq n 5 then 5 else n) rfl rfl rfl ⟨(rn_unk _), ⟨(rn_ptr (use_own rfl) rfl rfl), ⟨(rn_own (use_own rfl) rfl rfl), ⟨(rn_unk _), ⟨(rn_int rfl), trivial⟩⟩⟩⟩⟩ rfl (entl_b (use_own rfl) rfl (by simp) (rb_cells ⟨(rn_loose (use_lo rfl) rfl rfl rfl), (rn_loose (use_lo rfl) rfl rfl rfl), (rn_loose (use_lo rfl) rfl rfl rfl), (rn_int rfl), trivial⟩) (entl_new (use_own rfl) rfl (Nat.le_of_eq rfl) (rcs_int (fun _ _ => rfl) rcs_nil) (entl_bor (use_lo rfl) rfl rfl (entl_bor (use_lo rfl) rfl rfl (entl_bor (use_lo rfl) rfl rfl (entl_bor (use_lo rfl) rfl rfl entl_nil)))))))
attribute [local irreducible] Int.subNatNat in
set_option maxRecDepth 100000 in
theorem b36_1 (ac nc mc : Nat) (tc : Nat → ByteArray) (vc : Nat → ByteArray) (gc : Nat → Int) (wc : Nat → Bool) (an nn mn : Nat) (tn : Nat → Int) (ag ng mg : Nat) (tg : Nat → Int) (vg : Nat → Int) (rc : Int) (ao no mo : Nat) (to : Nat → Int) (Kst : KS) (Kret : KR) (x : St36 ⊕ Rt36) (hS : HS 4 400 ((I36 ac nc mc tc vc gc wc an nn mn tn ag ng mg tg vg rc ao no mo to)) Kst x) (hR : HR 4 400 ((V36 ac nc mc tc vc gc wc an nn mn tn ag ng mg tg vg rc ao no mo to)) (fun r => [newL (4 + 1) ((N36 ac nc mc tc vc gc wc an nn mn tn ag ng mg tg vg rc ao no mo to) r) ++ [(0, (false, .cols mc [.str tc, .str vc, .int .i64 gc, .bool wc])), (1, (false, .cols mn [.int .i64 tn])), (2, (false, .cols mg [.int .i64 tg, .int .i64 vg])), (3, (false, .cols mo [.int .i64 to]))]]) Kret x) (x0 : Int) (x1 : List Int) (h : (bif (decide (x0 < (↑(List.length x1) : Int)))
 then (bif (decide ((0 : Int) ≤ x0 ∧ x0 < (↑(List.length x1) : Int)))
 then (bif (decide (Int.toNat x0 < List.length x1))
 then (bif (decide ((0 : Int) ≤ x0 ∧ x0 < (↑nn : Int)))
 then (bif (decide (Int.toNat x0 + an < mn))
 then (bif (S.at' x1 (Int.toNat x0) != tn (Int.toNat x0 + an))
 then (some (.inr (false)))
 else (bif (lim IntKind.i64 (x0 + (1 : Int)))
 then (some (.inl (.h1 (x0 + (1 : Int)) (x1))))
 else (none)))
 else (none))
 else (none))
 else (none))
 else (none))
 else (some (.inr (true))) : Option (St36 ⊕ Rt36)) = some x) : T36_1 cond Kst Kret ac nc mc tc vc gc wc an nn mn tn ag ng mg tg vg rc ao no mo to x0 x1 := by
  unfold T36_1
  exact bif_split h
   (fun c0 h => bif_split h
   (fun c1 h => bif_split h
   (fun c2 h => bif_split h
   (fun c3 h => bif_split h
   (fun c4 h => bif_split h
   (fun c5 h => ret_at hR _ h (fun n => n) rfl rfl rfl (rn_bool_tf rfl) rfl (entl_bor (use_lo rfl) rfl rfl (entl_bor (use_lo rfl) rfl rfl (entl_bor (use_lo rfl) rfl rfl (entl_bor (use_lo rfl) rfl rfl entl_nil)))))
   (fun c5 h => bif_split h
   (fun c6 h => stop_at hS _ h (fun n => bif Nat.beq n 4 then 4 else bif Nat.beq n 5 then 5 else n) rfl rfl rfl ⟨(rn_unk _), ⟨(rn_ptr (use_own rfl) rfl rfl), ⟨(rn_own (use_own rfl) rfl rfl), ⟨(rn_unk _), ⟨(rn_int rfl), trivial⟩⟩⟩⟩⟩ rfl (entl_b (use_own rfl) rfl (by simp) (rb_cells ⟨(rn_loose (use_lo rfl) rfl rfl rfl), (rn_loose (use_lo rfl) rfl rfl rfl), (rn_loose (use_lo rfl) rfl rfl rfl), (rn_int rfl), trivial⟩) (entl_new (use_own rfl) rfl (Nat.le_of_eq rfl) (rcs_int (fun _ _ => rfl) rcs_nil) (entl_bor (use_lo rfl) rfl rfl (entl_bor (use_lo rfl) rfl rfl (entl_bor (use_lo rfl) rfl rfl (entl_bor (use_lo rfl) rfl rfl entl_nil)))))))
   (fun c6 h => no_some h)))
   (fun c4 h => no_some h))
   (fun c3 h => no_some h))
   (fun c2 h => no_some h))
   (fun c1 h => no_some h))
   (fun c0 h => ret_at hR _ h (fun n => n) rfl rfl rfl (rn_bool_tf rfl) rfl (entl_bor (use_lo rfl) rfl rfl (entl_bor (use_lo rfl) rfl rfl (entl_bor (use_lo rfl) rfl rfl (entl_bor (use_lo rfl) rfl rfl entl_nil)))))
theorem a36 (ac nc mc : Nat) (tc : Nat → ByteArray) (vc : Nat → ByteArray) (gc : Nat → Int) (wc : Nat → Bool) (an nn mn : Nat) (tn : Nat → Int) (ag ng mg : Nat) (tg : Nat → Int) (vg : Nat → Int) (rc : Int) (ao no mo : Nat) (to : Nat → Int) {r : Rt36} (h : Goes ((q36 ac nc mc tc vc gc wc an nn mn tn ag ng mg tg vg rc ao no mo to)) ((p36 ac nc mc tc vc gc wc an nn mn tn ag ng mg tg vg rc ao no mo to)) r) : CallR Try.prog 36 [.agg [.loose ⟨0, 4, ac, 0⟩ nc, .loose ⟨1, 1, an, 0⟩ nn, .loose ⟨2, 2, ag, 0⟩ ng, .int .i64 rc], .loose ⟨3, 1, ao, 0⟩ no] [[(0, (false, .cols mc [.str tc, .str vc, .int .i64 gc, .bool wc])), (1, (false, .cols mn [.int .i64 tn])), (2, (false, .cols mg [.int .i64 tg, .int .i64 vg])), (3, (false, .cols mo [.int .i64 to]))]] 4 ((V36 ac nc mc tc vc gc wc an nn mn tn ag ng mg tg vg rc ao no mo to) r) ((fun r => [newL (4 + 1) ((N36 ac nc mc tc vc gc wc an nn mn tn ag ng mg tg vg rc ao no mo to) r) ++ [(0, (false, .cols mc [.str tc, .str vc, .int .i64 gc, .bool wc])), (1, (false, .cols mn [.int .i64 tn])), (2, (false, .cols mg [.int .i64 tg, .int .i64 vg])), (3, (false, .cols mo [.int .i64 to]))]]) r) 400 ∧ ∃ F, Try.prog.funcs[36]? = some F ∧ F.body.isSome = true ∧ (F.name == "runtime.NumGoroutine") = false := by
  refine dec_calls (f := 36) (lo := 4) (hi := 400) (H := [[(0, (false, .cols mc [.str tc, .str vc, .int .i64 gc, .bool wc])), (1, (false, .cols mn [.int .i64 tn])), (2, (false, .cols mg [.int .i64 tg, .int .i64 vg])), (3, (false, .cols mo [.int .i64 to]))]]) (args := [.agg [.loose ⟨0, 4, ac, 0⟩ nc, .loose ⟨1, 1, an, 0⟩ nn, .loose ⟨2, 2, ag, 0⟩ ng, .int .i64 rc], .loose ⟨3, 1, ao, 0⟩ no]) Try.envOk Try.mixed xD_ok ((I36 ac nc mc tc vc gc wc an nn mn tn ag ng mg tg vg rc ao no mo to)) ((V36 ac nc mc tc vc gc wc an nn mn tn ag ng mg tg vg rc ao no mo to)) (fun r => [newL (4 + 1) ((N36 ac nc mc tc vc gc wc an nn mn tn ag ng mg tg vg rc ao no mo to) r) ++ [(0, (false, .cols mc [.str tc, .str vc, .int .i64 gc, .bool wc])), (1, (false, .cols mn [.int .i64 tn])), (2, (false, .cols mg [.int .i64 tg, .int .i64 vg])), (3, (false, .cols mo [.int .i64 to]))]]) (fn := mkFn Try.f36) (ts := [1, 2, 5, 6, 7]) (n := 400) rfl (by decide) (by simp) (names_of rfl) ?_ ?_ ?_ h
  · intro s; cases s <;> exact ⟨hd_ok _ _, by simp [I36], names_of rfl, Nat.le_of_ble_eq_true rfl⟩
  · intro Kst Kret x hS hR h
    exact Holds.eq (te36 cond Kst Kret ac nc mc tc vc gc wc an nn mn tn ag ng mg tg vg rc ao no mo to) (be36 ac nc mc tc vc gc wc an nn mn tn ag ng mg tg vg rc ao no mo to Kst Kret x hS hR h)
  · intro Kst Kret x hS hR s h
    cases s with
    | h0 x0 x1 => exact Holds.eq (t36_0 cond Kst Kret ac nc mc tc vc gc wc an nn mn tn ag ng mg tg vg rc ao no mo to x0 x1) (b36_0 ac nc mc tc vc gc wc an nn mn tn ag ng mg tg vg rc ao no mo to Kst Kret x hS hR x0 x1 h)
    | h1 x0 x1 => exact Holds.eq (t36_1 cond Kst Kret ac nc mc tc vc gc wc an nn mn tn ag ng mg tg vg rc ao no mo to x0 x1) (b36_1 ac nc mc tc vc gc wc an nn mn tn ag ng mg tg vg rc ao no mo to Kst Kret x hS hR x0 x1 h)
noncomputable def k36 : Con := ⟨36, [.agg [.list [.str, .str, .int .i64, .bool], .list [.int .i64], .list [.int .i64, .int .i64], .plain (.int .i64)], .one (.list [.int .i64])], fun (x : ((Nat × Nat × Nat × (Nat → ByteArray) × (Nat → ByteArray) × (Nat → Int) × (Nat → Bool) × Unit) × (Nat × Nat × Nat × (Nat → Int) × Unit) × (Nat × Nat × Nat × (Nat → Int) × (Nat → Int) × Unit) × Int × Unit) × (Nat × Nat × Nat × (Nat → Int) × Unit) × Unit) => (fun (ac nc mc : Nat) (tc : Nat → ByteArray) (vc : Nat → ByteArray) (gc : Nat → Int) (wc : Nat → Bool) (an nn mn : Nat) (tn : Nat → Int) (ag ng mg : Nat) (tg : Nat → Int) (vg : Nat → Int) (rc : Int) (ao no mo : Nat) (to : Nat → Int) => decide ((ac + nc ≤ mc ∧ an + nn ≤ mn ∧ ag + ng ≤ mg ∧ ao + no ≤ mo ∧ no ≤ 20) ∧ S.ttE nc (fun j => tc (j + ac)) (fun j => vc (j + ac)) (fun j => gc (j + ac)) nn (fun j => tn (j + an)) ng (fun j => tg (j + ag)) (fun j => vg (j + ag)) rc = 0)) x.1.1.1 x.1.1.2.1 x.1.1.2.2.1 x.1.1.2.2.2.1 x.1.1.2.2.2.2.1 x.1.1.2.2.2.2.2.1 x.1.1.2.2.2.2.2.2.1 x.1.2.1.1 x.1.2.1.2.1 x.1.2.1.2.2.1 x.1.2.1.2.2.2.1 x.1.2.2.1.1 x.1.2.2.1.2.1 x.1.2.2.1.2.2.1 x.1.2.2.1.2.2.2.1 x.1.2.2.1.2.2.2.2.1 x.1.2.2.2.1 x.2.1.1 x.2.1.2.1 x.2.1.2.2.1 x.2.1.2.2.2.1, fun (x : ((Nat × Nat × Nat × (Nat → ByteArray) × (Nat → ByteArray) × (Nat → Int) × (Nat → Bool) × Unit) × (Nat × Nat × Nat × (Nat → Int) × Unit) × (Nat × Nat × Nat × (Nat → Int) × (Nat → Int) × Unit) × Int × Unit) × (Nat × Nat × Nat × (Nat → Int) × Unit) × Unit) => (fun (ac nc mc : Nat) (tc : Nat → ByteArray) (vc : Nat → ByteArray) (gc : Nat → Int) (wc : Nat → Bool) (an nn mn : Nat) (tn : Nat → Int) (ag ng mg : Nat) (tg : Nat → Int) (vg : Nat → Int) (rc : Int) (ao no mo : Nat) (to : Nat → Int) => (V36 ac nc mc tc vc gc wc an nn mn tn ag ng mg tg vg rc ao no mo to) ((S.runS nc (fun j => gc (j + ac)) (fun j => wc (j + ac)) ng (fun j => tg (j + ag)) (fun j => vg (j + ag)) rc (fun j => to (j + ao)) 0 no 0 (-1) rc (S.mkl nn (fun j => tn (j + an))) []).2.1)) x.1.1.1 x.1.1.2.1 x.1.1.2.2.1 x.1.1.2.2.2.1 x.1.1.2.2.2.2.1 x.1.1.2.2.2.2.2.1 x.1.1.2.2.2.2.2.2.1 x.1.2.1.1 x.1.2.1.2.1 x.1.2.1.2.2.1 x.1.2.1.2.2.2.1 x.1.2.2.1.1 x.1.2.2.1.2.1 x.1.2.2.1.2.2.1 x.1.2.2.1.2.2.2.1 x.1.2.2.1.2.2.2.2.1 x.1.2.2.2.1 x.2.1.1 x.2.1.2.1 x.2.1.2.2.1 x.2.1.2.2.2.1, fun (x : ((Nat × Nat × Nat × (Nat → ByteArray) × (Nat → ByteArray) × (Nat → Int) × (Nat → Bool) × Unit) × (Nat × Nat × Nat × (Nat → Int) × Unit) × (Nat × Nat × Nat × (Nat → Int) × (Nat → Int) × Unit) × Int × Unit) × (Nat × Nat × Nat × (Nat → Int) × Unit) × Unit) => (fun (ac nc mc : Nat) (tc : Nat → ByteArray) (vc : Nat → ByteArray) (gc : Nat → Int) (wc : Nat → Bool) (an nn mn : Nat) (tn : Nat → Int) (ag ng mg : Nat) (tg : Nat → Int) (vg : Nat → Int) (rc : Int) (ao no mo : Nat) (to : Nat → Int) => (N36 ac nc mc tc vc gc wc an nn mn tn ag ng mg tg vg rc ao no mo to) ((S.runS nc (fun j => gc (j + ac)) (fun j => wc (j + ac)) ng (fun j => tg (j + ag)) (fun j => vg (j + ag)) rc (fun j => to (j + ao)) 0 no 0 (-1) rc (S.mkl nn (fun j => tn (j + an))) []).2.1)) x.1.1.1 x.1.1.2.1 x.1.1.2.2.1 x.1.1.2.2.2.1 x.1.1.2.2.2.2.1 x.1.1.2.2.2.2.2.1 x.1.1.2.2.2.2.2.2.1 x.1.2.1.1 x.1.2.1.2.1 x.1.2.1.2.2.1 x.1.2.1.2.2.2.1 x.1.2.2.1.1 x.1.2.2.1.2.1 x.1.2.2.1.2.2.1 x.1.2.2.1.2.2.2.1 x.1.2.2.1.2.2.2.2.1 x.1.2.2.2.1 x.2.1.1 x.2.1.2.1 x.2.1.2.2.1 x.2.1.2.2.2.1, fun _ _ => .dead⟩
theorem s36f (ac nc mc : Nat) (tc : Nat → ByteArray) (vc : Nat → ByteArray) (gc : Nat → Int) (wc : Nat → Bool) (an nn mn : Nat) (tn : Nat → Int) (ag ng mg : Nat) (tg : Nat → Int) (vg : Nat → Int) (rc : Int) (ao no mo : Nat) (to : Nat → Int) (hp : (ac + nc ≤ mc ∧ an + nn ≤ mn ∧ ag + ng ≤ mg ∧ ao + no ≤ mo ∧ no ≤ 20) ∧ S.ttE nc (fun j => tc (j + ac)) (fun j => vc (j + ac)) (fun j => gc (j + ac)) nn (fun j => tn (j + an)) ng (fun j => tg (j + ag)) (fun j => vg (j + ag)) rc = 0) (x1 : List Int) (hl : x1.length = nc) (R : Bool) (hR : R = true ↔ ∀ j, j < nc → S.at' x1 j = tn (j + an)) : ∀ k i : Nat, i + k = nc → (∀ j, j < i → S.at' x1 j = tn (j + an)) → Comes (q36 ac nc mc tc vc gc wc an nn mn tn ag ng mg tg vg rc ao no mo to) (.h1 (i : Int) x1) R := by
  obtain ⟨⟨hp1, hp2, hp3, hp4, hp5⟩, hT⟩ := hp
  have hT := (tt_ok hT).1
  intro k
  induction k with
  | zero =>
    intro i hi ha
    have e := hR.mpr fun j hj => ha j (by omega)
    subst e
    apply Comes.of
    rw [q36]
    exact goes_no (decide_eq_false (by omega)) rfl
  | succ k ih =>
    intro i hi ha
    by_cases h0 : S.at' x1 i = tn (i + an)
    · have ih := ih (i + 1) (by omega) fun j hj => by
        rcases Nat.lt_or_ge j i with h | h
        · exact ha j h
        · obtain rfl : j = i := by omega
          exact h0
      clear hR ha
      apply Comes.of
      show Goes _ _ _
      (first | rw [q36] | unfold q36)
      repeat' first
        | with_reducible refine goes_if (fun h => ?_) (fun h => ?_) <;> (try simp only [lim64, imp_false, decide_eq_true_eq, decide_eq_false_iff_not, Int.toNat_natCast, toNat_pred, toNat_succ, Option.getD_some, Option.getD_none, Bool.not_eq_true', Bool.not_eq_false', Bool.and_eq_true, Bool.or_eq_true, Bool.and_eq_false_iff, Bool.or_eq_false_iff, bne_iff_ne, beq_iff_eq, bne_eq_false_iff_eq, beq_eq_false_iff_ne, ne_eq, not_and, Int.not_le, Int.not_lt, ge_iff_le, gt_iff_lt, Nat.not_lt, Nat.not_le, Bool.not_eq_true, Bool.not_eq_false, Bool.true_eq_false, Bool.false_eq_true, not_false_eq_true, not_true_eq_false] at h)
        | exact goes_none.mpr (by omega)
      all_goals first | (exfalso; omega) | exact ih
    · have e : R = false := by
        cases hb : R
        · rfl
        · exact absurd (hR.mp hb i (by omega)) h0
      subst e
      clear hR ha ih
      apply Comes.of
      show Goes _ _ _
      (first | rw [q36] | unfold q36)
      repeat' first
        | with_reducible refine goes_if (fun h => ?_) (fun h => ?_) <;> (try simp only [lim64, imp_false, decide_eq_true_eq, decide_eq_false_iff_not, Int.toNat_natCast, toNat_pred, toNat_succ, Option.getD_some, Option.getD_none, Bool.not_eq_true', Bool.not_eq_false', Bool.and_eq_true, Bool.or_eq_true, Bool.and_eq_false_iff, Bool.or_eq_false_iff, bne_iff_ne, beq_iff_eq, bne_eq_false_iff_eq, beq_eq_false_iff_ne, ne_eq, not_and, Int.not_le, Int.not_lt, ge_iff_le, gt_iff_lt, Nat.not_lt, Nat.not_le, Bool.not_eq_true, Bool.not_eq_false, Bool.true_eq_false, Bool.false_eq_true, not_false_eq_true, not_true_eq_false] at h)
        | exact goes_none.mpr (by omega)
      all_goals first | (exfalso; omega) | rfl
theorem inc_at {x1 : List Int} {nc : Nat} (hl : x1.length = nc) {c : Int} : (S.mkl x1.length fun j => bif Nat.beq j c.toNat then S.at' x1 c.toNat + 1 else S.at' x1 j).length = nc ∧ ∀ j, j < nc → S.at' (S.mkl x1.length fun j => bif Nat.beq j c.toNat then S.at' x1 c.toNat + 1 else S.at' x1 j) j = if j = c.toNat then S.at' x1 c.toNat + 1 else S.at' x1 j := by
  refine ⟨by rw [mkl_len]; exact hl, fun j hj => ?_⟩
  rw [at_mkl (by omega)]
  by_cases h : j = c.toNat
  · rw [if_pos h, h, Nat.beq_refl]; rfl
  · rw [if_neg h, nbeq_no h]; rfl
theorem s36d (ac nc mc : Nat) (tc : Nat → ByteArray) (vc : Nat → ByteArray) (gc : Nat → Int) (wc : Nat → Bool) (an nn mn : Nat) (tn : Nat → Int) (ag ng mg : Nat) (tg : Nat → Int) (vg : Nat → Int) (rc : Int) (ao no mo : Nat) (to : Nat → Int) (hp : (ac + nc ≤ mc ∧ an + nn ≤ mn ∧ ag + ng ≤ mg ∧ ao + no ≤ mo ∧ no ≤ 20) ∧ S.ttE nc (fun j => tc (j + ac)) (fun j => vc (j + ac)) (fun j => gc (j + ac)) nn (fun j => tn (j + an)) ng (fun j => tg (j + ag)) (fun j => vg (j + ag)) rc = 0) : ∀ (k i : Nat) (x1 : List Int), i + k = no → x1.length = nc → Holds (∃ j, j < nc ∧ tn (j + an) < S.at' x1 j) → Holds (∀ j, j < nc → 0 ≤ S.at' x1 j ∧ S.at' x1 j ≤ i) → Comes (q36 ac nc mc tc vc gc wc an nn mn tn ag ng mg tg vg rc ao no mo to) (.h0 (i : Int) x1) false := by
  have hp' := hp
  obtain ⟨⟨hp1, hp2, hp3, hp4, hp5⟩, hT⟩ := hp
  have hT := (tt_ok hT).1
  intro k
  induction k with
  | zero =>
    intro i x1 hi hl hd hb
    have key := s36f ac nc mc tc vc gc wc an nn mn tn ag ng mg tg vg rc ao no mo to hp' x1 hl false ⟨fun h => Bool.noConfusion h, fun h => by obtain ⟨j, h1, h2⟩ := hd.get; have := h j h1; omega⟩ nc 0 (Nat.zero_add _) (fun j hj => absurd hj (Nat.not_lt_zero j))
    apply Comes.of
    rw [q36]
    exact goes_no (decide_eq_false (by omega)) key
  | succ k ih =>
    intro i x1 hi hl hd hb
    generalize hc : to (i + ao) = c at *
    have e1 : 0 < i → ((i : Int) - 1).toNat = i - 1 := fun _ => by omega
    by_cases hr : 0 ≤ c ∧ c ≤ (nc : Int) - 1
    · obtain ⟨g1, g2⟩ := inc_at hl (c := c)
      have hbc := hb.get c.toNat (by omega)
      have ih := ih (i + 1) (S.mkl x1.length fun j => bif Nat.beq j c.toNat then S.at' x1 c.toNat + 1 else S.at' x1 j) (by omega) g1 ⟨by
        obtain ⟨j, h1, h2⟩ := hd.get
        refine ⟨j, h1, ?_⟩
        rw [g2 j h1]
        split
        · rename_i e; rw [e] at h2 ⊢; omega
        · exact h2⟩ ⟨fun j hj => by
        have := hb.get j hj
        rw [g2 j hj]
        split <;> omega⟩
      clear g1 g2 hd hb
      by_cases hi0 : i = 0
      · apply Comes.of
        rw [q36]
        simp only [Int.toNat_natCast, hc]
        repeat' first
          | with_reducible refine goes_if (fun h => ?_) (fun h => ?_) <;> (try simp only [lim64, imp_false, decide_eq_true_eq, decide_eq_false_iff_not, Int.toNat_natCast, toNat_pred, toNat_succ, Option.getD_some, Option.getD_none, Bool.not_eq_true', Bool.not_eq_false', Bool.and_eq_true, Bool.or_eq_true, Bool.and_eq_false_iff, Bool.or_eq_false_iff, bne_iff_ne, beq_iff_eq, bne_eq_false_iff_eq, beq_eq_false_iff_ne, ne_eq, not_and, Int.not_le, Int.not_lt, ge_iff_le, gt_iff_lt, Nat.not_lt, Nat.not_le, Bool.not_eq_true, Bool.not_eq_false, Bool.true_eq_false, Bool.false_eq_true, not_false_eq_true, not_true_eq_false] at h)
          | exact goes_none.mpr (by omega)
        all_goals first | (exfalso; omega) | exact ih
      · have e1 := e1 (by omega)
        apply Comes.of
        rw [q36]
        simp only [Int.toNat_natCast, hc, e1]
        repeat' first
          | with_reducible refine goes_if (fun h => ?_) (fun h => ?_) <;> (try simp only [lim64, imp_false, decide_eq_true_eq, decide_eq_false_iff_not, Int.toNat_natCast, toNat_pred, toNat_succ, Option.getD_some, Option.getD_none, Bool.not_eq_true', Bool.not_eq_false', Bool.and_eq_true, Bool.or_eq_true, Bool.and_eq_false_iff, Bool.or_eq_false_iff, bne_iff_ne, beq_iff_eq, bne_eq_false_iff_eq, beq_eq_false_iff_ne, ne_eq, not_and, Int.not_le, Int.not_lt, ge_iff_le, gt_iff_lt, Nat.not_lt, Nat.not_le, Bool.not_eq_true, Bool.not_eq_false, Bool.true_eq_false, Bool.false_eq_true, not_false_eq_true, not_true_eq_false] at h)
          | exact goes_none.mpr (by omega)
        all_goals first | (exfalso; omega) | exact ih | rfl
    · clear ih hd hb
      apply Comes.of
      rw [q36]
      simp only [Int.toNat_natCast, hc]
      repeat' first
        | with_reducible refine goes_if (fun h => ?_) (fun h => ?_) <;> (try simp only [lim64, imp_false, decide_eq_true_eq, decide_eq_false_iff_not, Int.toNat_natCast, toNat_pred, toNat_succ, Option.getD_some, Option.getD_none, Bool.not_eq_true', Bool.not_eq_false', Bool.and_eq_true, Bool.or_eq_true, Bool.and_eq_false_iff, Bool.or_eq_false_iff, bne_iff_ne, beq_iff_eq, bne_eq_false_iff_eq, beq_eq_false_iff_ne, ne_eq, not_and, Int.not_le, Int.not_lt, ge_iff_le, gt_iff_lt, Nat.not_lt, Nat.not_le, Bool.not_eq_true, Bool.not_eq_false, Bool.true_eq_false, Bool.false_eq_true, not_false_eq_true, not_true_eq_false] at h)
        | exact goes_none.mpr (by omega)
      all_goals first | (exfalso; omega) | rfl
theorem s36l (ac nc mc : Nat) (tc : Nat → ByteArray) (vc : Nat → ByteArray) (gc : Nat → Int) (wc : Nat → Bool) (an nn mn : Nat) (tn : Nat → Int) (ag ng mg : Nat) (tg : Nat → Int) (vg : Nat → Int) (rc : Int) (ao no mo : Nat) (to : Nat → Int) (hp : (ac + nc ≤ mc ∧ an + nn ≤ mn ∧ ag + ng ≤ mg ∧ ao + no ≤ mo ∧ no ≤ 20) ∧ S.ttE nc (fun j => tc (j + ac)) (fun j => vc (j + ac)) (fun j => gc (j + ac)) nn (fun j => tn (j + an)) ng (fun j => tg (j + ag)) (fun j => vg (j + ag)) rc = 0) : ∀ (k i : Nat) (x1 : List Int) (x la si : Int) (cs l : List Int), i + k = no → x1.length = nc → Holds (CsOk nc cs) → Holds (∀ j, j < nc → S.at' x1 j + S.at' cs j = tn (j + an) ∧ 0 ≤ S.at' x1 j ∧ S.at' x1 j ≤ i) → (la = if i = 0 then -1 else to (i - 1 + ao)) → Comes (q36 ac nc mc tc vc gc wc an nn mn tn ag ng mg tg vg rc ao no mo to) (.h0 (i : Int) x1) (S.runS nc (fun j => gc (j + ac)) (fun j => wc (j + ac)) ng (fun j => tg (j + ag)) (fun j => vg (j + ag)) rc (fun j => to (j + ao)) i k x la si cs l).2.1 := by
  have hp' := hp
  obtain ⟨⟨hp1, hp2, hp3, hp4, hp5⟩, hT⟩ := hp
  have hF := tt_for hT
  obtain ⟨hT, -, tn1⟩ := tt_ok hT
  intro k
  induction k with
  | zero =>
    intro i x1 x la si cs l hi hl hC hb hla
    have key := s36f ac nc mc tc vc gc wc an nn mn tn ag ng mg tg vg rc ao no mo to hp' x1 hl (S.maxN (fun j => S.at' cs j) (cs.length - 1) == 0) (by
      rw [max_0 hC.get hT.1]
      exact ⟨fun h j hj => by have := h j hj; have := (hb.get j hj).1; omega, fun h j hj => by have := h j hj; have := (hb.get j hj).1; omega⟩) nc 0 (Nat.zero_add _) (fun j hj => absurd hj (Nat.not_lt_zero j))
    apply Comes.of
    rw [q36]
    exact goes_no (decide_eq_false (by omega)) key
  | succ k ih =>
    intro i x1 x la si cs l hi hl hC hb hla
    simp only [S.runS]
    generalize hc : to (i + ao) = c at *
    have e1 : 0 < i → ((i : Int) - 1).toNat = i - 1 := fun _ => by omega
    by_cases hr : 0 ≤ c ∧ c ≤ (nc : Int) - 1
    · obtain ⟨g1, g2⟩ := inc_at hl (c := c)
      have hbc := hb.get c.toNat (by omega)
      have hcc := hC.get.2 c.toNat (by omega)
      have htn := tn1 c.toNat (by omega)
      have hdd := s36d ac nc mc tc vc gc wc an nn mn tn ag ng mg tg vg rc ao no mo to hp' k (i + 1) (S.mkl x1.length fun j => bif Nat.beq j c.toNat then S.at' x1 c.toNat + 1 else S.at' x1 j) (by omega) g1
      cases hf : S.forb ng (fun j => tg (j + ag)) (fun j => vg (j + ag)) la c
      · have key : Comes (q36 ac nc mc tc vc gc wc an nn mn tn ag ng mg tg vg rc ao no mo to) (.h0 ((i + 1 : Nat) : Int) (S.mkl x1.length fun j => bif Nat.beq j c.toNat then S.at' x1 c.toNat + 1 else S.at' x1 j)) (if 0 ≤ c ∧ c ≤ (nc : Int) - 1 ∧ S.at' cs c.toNat ≠ 0 ∧ false = false then S.runS nc (fun j => gc (j + ac)) (fun j => wc (j + ac)) ng (fun j => tg (j + ag)) (fun j => vg (j + ag)) rc (fun j => to (j + ao)) (i + 1) k (x + (if wc (c.toNat + ac) = true then gc (c.toNat + ac) + rc - si else gc (c.toNat + ac))) c (if wc (c.toNat + ac) = true then min rc (gc (c.toNat + ac)) else min rc (si + gc (c.toNat + ac))) (S.mkl cs.length fun j => bif Nat.beq j c.toNat then S.at' cs c.toNat - 1 else S.at' cs j) (S.snoc l ((x + (if wc (c.toNat + ac) = true then gc (c.toNat + ac) + rc - si else gc (c.toNat + ac))) - gc (c.toNat + ac))) else (0, false, [])).2.1 := by
          by_cases h0 : S.at' cs c.toNat = 0
          · rw [if_neg (fun h => h.2.2.1 h0)]
            exact hdd ⟨c.toNat, by omega, by rw [g2 _ (by omega), if_pos rfl]; omega⟩ ⟨fun j hj => by
              have := hb.get j hj
              rw [g2 j hj]
              split <;> omega⟩
          · rw [if_pos ⟨hr.1, hr.2, h0, rfl⟩]
            have hD := CsOk.dec hC.get (c := c.toNat) (by omega) h0
            refine ih (i + 1) _ _ _ _ _ _ (by omega) g1 ⟨hD⟩ ⟨fun j hj => ?_⟩ (by rw [if_neg (by omega), show i + 1 - 1 = i by omega]; exact hc.symm)
            have hl2 := hC.get.1
            have := hb.get j hj
            rw [g2 j hj, at_mkl (by omega)]
            by_cases hj2 : j = c.toNat
            · rw [if_pos hj2, hj2, Nat.beq_refl]
              show S.at' x1 c.toNat + 1 + (S.at' cs c.toNat - 1) = _ ∧ _
              omega
            · rw [if_neg hj2, nbeq_no hj2]
              show S.at' x1 j + S.at' cs j = _ ∧ _
              omega
        clear g1 g2 hb hC ih hdd
        generalize (if 0 ≤ c ∧ c ≤ (nc : Int) - 1 ∧ S.at' cs c.toNat ≠ 0 ∧ false = false then S.runS nc (fun j => gc (j + ac)) (fun j => wc (j + ac)) ng (fun j => tg (j + ag)) (fun j => vg (j + ag)) rc (fun j => to (j + ao)) (i + 1) k (x + (if wc (c.toNat + ac) = true then gc (c.toNat + ac) + rc - si else gc (c.toNat + ac))) c (if wc (c.toNat + ac) = true then min rc (gc (c.toNat + ac)) else min rc (si + gc (c.toNat + ac))) (S.mkl cs.length fun j => bif Nat.beq j c.toNat then S.at' cs c.toNat - 1 else S.at' cs j) (S.snoc l ((x + (if wc (c.toNat + ac) = true then gc (c.toNat + ac) + rc - si else gc (c.toNat + ac))) - gc (c.toNat + ac))) else (0, false, [])).2.1 = R at *
        by_cases hi0 : i = 0
        · apply Comes.of
          rw [q36]
          simp only [Int.toNat_natCast, hc]
          repeat' first
            | with_reducible refine goes_if (fun h => ?_) (fun h => ?_) <;> (try simp only [lim64, imp_false, decide_eq_true_eq, decide_eq_false_iff_not, Int.toNat_natCast, toNat_pred, toNat_succ, Option.getD_some, Option.getD_none, Bool.not_eq_true', Bool.not_eq_false', Bool.and_eq_true, Bool.or_eq_true, Bool.and_eq_false_iff, Bool.or_eq_false_iff, bne_iff_ne, beq_iff_eq, bne_eq_false_iff_eq, beq_eq_false_iff_ne, ne_eq, not_and, Int.not_le, Int.not_lt, ge_iff_le, gt_iff_lt, Nat.not_lt, Nat.not_le, Bool.not_eq_true, Bool.not_eq_false, Bool.true_eq_false, Bool.false_eq_true, not_false_eq_true, not_true_eq_false] at h)
            | exact goes_none.mpr (by omega)
          all_goals first | (exfalso; omega) | exact key
        · have e1 := e1 (by omega)
          rw [if_neg hi0] at hla
          subst hla
          apply Comes.of
          rw [q36]
          simp only [Int.toNat_natCast, hc, e1, hf]
          repeat' first
            | with_reducible refine goes_if (fun h => ?_) (fun h => ?_) <;> (try simp only [lim64, imp_false, decide_eq_true_eq, decide_eq_false_iff_not, Int.toNat_natCast, toNat_pred, toNat_succ, Option.getD_some, Option.getD_none, Bool.not_eq_true', Bool.not_eq_false', Bool.and_eq_true, Bool.or_eq_true, Bool.and_eq_false_iff, Bool.or_eq_false_iff, bne_iff_ne, beq_iff_eq, bne_eq_false_iff_eq, beq_eq_false_iff_ne, ne_eq, not_and, Int.not_le, Int.not_lt, ge_iff_le, gt_iff_lt, Nat.not_lt, Nat.not_le, Bool.not_eq_true, Bool.not_eq_false, Bool.true_eq_false, Bool.false_eq_true, not_false_eq_true, not_true_eq_false] at h)
            | exact goes_none.mpr (by omega)
          all_goals first | (exfalso; omega) | exact key
      · rw [if_neg (fun h => Bool.noConfusion h.2.2.2)]
        clear g1 g2 hb hC ih hdd
        have hi0 : i ≠ 0 := fun h0 => by
          rw [if_pos h0] at hla
          subst hla
          rw [forb_m1 hF] at hf
          cases hf
        have e1 := e1 (by omega)
        rw [if_neg hi0] at hla
        subst hla
        apply Comes.of
        rw [q36]
        simp only [Int.toNat_natCast, hc, e1, hf]
        repeat' first
          | with_reducible refine goes_if (fun h => ?_) (fun h => ?_) <;> (try simp only [lim64, imp_false, decide_eq_true_eq, decide_eq_false_iff_not, Int.toNat_natCast, toNat_pred, toNat_succ, Option.getD_some, Option.getD_none, Bool.not_eq_true', Bool.not_eq_false', Bool.and_eq_true, Bool.or_eq_true, Bool.and_eq_false_iff, Bool.or_eq_false_iff, bne_iff_ne, beq_iff_eq, bne_eq_false_iff_eq, beq_eq_false_iff_ne, ne_eq, not_and, Int.not_le, Int.not_lt, ge_iff_le, gt_iff_lt, Nat.not_lt, Nat.not_le, Bool.not_eq_true, Bool.not_eq_false, Bool.true_eq_false, Bool.false_eq_true, not_false_eq_true, not_true_eq_false] at h)
          | exact goes_none.mpr (by omega)
        all_goals first | (exfalso; omega) | rfl
    · rw [if_neg (fun h => hr ⟨h.1, h.2.1⟩)]
      clear ih hb hC
      apply Comes.of
      rw [q36]
      simp only [Int.toNat_natCast, hc]
      repeat' first
        | with_reducible refine goes_if (fun h => ?_) (fun h => ?_) <;> (try simp only [lim64, imp_false, decide_eq_true_eq, decide_eq_false_iff_not, Int.toNat_natCast, toNat_pred, toNat_succ, Option.getD_some, Option.getD_none, Bool.not_eq_true', Bool.not_eq_false', Bool.and_eq_true, Bool.or_eq_true, Bool.and_eq_false_iff, Bool.or_eq_false_iff, bne_iff_ne, beq_iff_eq, bne_eq_false_iff_eq, beq_eq_false_iff_ne, ne_eq, not_and, Int.not_le, Int.not_lt, ge_iff_le, gt_iff_lt, Nat.not_lt, Nat.not_le, Bool.not_eq_true, Bool.not_eq_false, Bool.true_eq_false, Bool.false_eq_true, not_false_eq_true, not_true_eq_false] at h)
        | exact goes_none.mpr (by omega)
      all_goals first | (exfalso; omega) | rfl
theorem s36 (ac nc mc : Nat) (tc : Nat → ByteArray) (vc : Nat → ByteArray) (gc : Nat → Int) (wc : Nat → Bool) (an nn mn : Nat) (tn : Nat → Int) (ag ng mg : Nat) (tg : Nat → Int) (vg : Nat → Int) (rc : Int) (ao no mo : Nat) (to : Nat → Int) (hp : (ac + nc ≤ mc ∧ an + nn ≤ mn ∧ ag + ng ≤ mg ∧ ao + no ≤ mo ∧ no ≤ 20) ∧ S.ttE nc (fun j => tc (j + ac)) (fun j => vc (j + ac)) (fun j => gc (j + ac)) nn (fun j => tn (j + an)) ng (fun j => tg (j + ag)) (fun j => vg (j + ag)) rc = 0) : Goes ((q36 ac nc mc tc vc gc wc an nn mn tn ag ng mg tg vg rc ao no mo to)) ((p36 ac nc mc tc vc gc wc an nn mn tn ag ng mg tg vg rc ao no mo to)) ((S.runS nc (fun j => gc (j + ac)) (fun j => wc (j + ac)) ng (fun j => tg (j + ag)) (fun j => vg (j + ag)) rc (fun j => to (j + ao)) 0 no 0 (-1) rc (S.mkl nn (fun j => tn (j + an))) []).2.1) := by
  have hT := tt_ok hp.2
  unfold p36
  refine goes_ok (decide_eq_true (by omega)) ?_
  exact s36l ac nc mc tc vc gc wc an nn mn tn ag ng mg tg vg rc ao no mo to hp no 0 (S.mkl nc fun j => 0) 0 (-1) rc (S.mkl nn (fun j => tn (j + an))) [] (Nat.zero_add _) mkl_len ⟨⟨by rw [mkl_len]; omega, fun j hj => by rw [at_mkl (by omega)]; exact hT.2.2 j hj⟩⟩ ⟨fun j hj => by rw [at_mkl hj, at_mkl (by omega)]; show (0 : Int) + tn (j + an) = _ ∧ _; omega⟩ rfl

theorem k36_ok : k36.ok Try.prog := by
  intro x hx
  obtain ⟨⟨⟨ac, nc, mc, tc, vc, gc, wc, _⟩, ⟨an, nn, mn, tn, _⟩, ⟨ag, ng, mg, tg, vg, _⟩, rc, _⟩, ⟨ao, no, mo, to, _⟩, _⟩ := x
  obtain ⟨h1, h2⟩ := a36 ac nc mc tc vc gc wc an nn mn tn ag ng mg tg vg rc ao no mo to (s36 ac nc mc tc vc gc wc an nn mn tn ag ng mg tg vg rc ao no mo to (of_dec hx rfl))
  exact ⟨⟨400, (by decide : 4 + 1 + 0 ≤ 400), h1⟩, h2⟩

end Go.Ev
