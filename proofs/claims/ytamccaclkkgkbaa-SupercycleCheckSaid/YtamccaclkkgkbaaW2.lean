/-
  The starts of an order.
-/
import Derived.Test.YtamccaclkkgkbaaW1
namespace Go.Ev
open Go.Proofs
set_option linter.unusedVariables false
set_option linter.unusedSimpArgs false
set_option maxRecDepth 100000

namespace S
/-- Must cycle c not follow cycle la? -/
def forb (ng : Nat) (tg vg : Nat → Int) (la c : Int) : Bool := any (fun j => decide (tg j = la) && decide (vg j = c)) ng
/-- What starts does from the i-th cycle of an order on. -/
noncomputable def runS (nc : Nat) (g : Nat → Int) (w : Nat → Bool) (ng : Nat) (tg vg : Nat → Int) (rc : Int) (o : Nat → Int) : Nat → Nat → Int → Int → Int → List Int → List Int → Int × Bool × List Int
  | _, 0, x, _, _, cs, l => (x, maxN (fun j => at' cs j) (cs.length - 1) == 0, l)
  | i, k + 1, x, la, si, cs, l => if 0 ≤ o i ∧ o i ≤ (nc : Int) - 1 ∧ at' cs (o i).toNat ≠ 0 ∧ forb ng tg vg la (o i) = false then runS nc g w ng tg vg rc o (i + 1) k (x + if w (o i).toNat = true then g (o i).toNat + rc - si else g (o i).toNat) (o i) (if w (o i).toNat = true then min rc (g (o i).toNat) else min rc (si + g (o i).toNat)) (mkl cs.length fun j => bif Nat.beq j (o i).toNat then at' cs (o i).toNat - 1 else at' cs j) (snoc l ((x + if w (o i).toNat = true then g (o i).toNat + rc - si else g (o i).toNat) - g (o i).toNat)) else (0, false, [])
end S
theorem nz_0 {e R : Int} (h : S.nz e R = 0) : e = 0 ∧ R = 0 := by
  unfold S.nz at h
  split at h
  · exact ⟨by assumption, h⟩
  · exact absurd h (by assumption)
theorem cycE_ok {t v : Nat → ByteArray} {g : Nat → Int} : ∀ {k i : Nat}, S.cycE t v g i k = 0 → ∀ j, i ≤ j → j < i + k → 1 ≤ g j ∧ g j ≤ 200
  | 0, i, _, j, h1, h2 => by omega
  | k + 1, i, h, j, h1, h2 => by
    simp only [S.cycE] at h
    split at h
    · split at h
      · cases h
      · split at h
        · rename_i hg
          rcases Nat.lt_or_ge i j with h3 | h3
          · exact cycE_ok h j (by omega) (by omega)
          · obtain rfl : j = i := by omega
            exact hg
        · cases h
    · cases h
theorem cntE_ok {t : Nat → Int} : ∀ {k i : Nat} {x : Int}, S.cntE t i k x = 0 → ∀ j, i ≤ j → j < i + k → 0 ≤ t j ∧ t j ≤ 4
  | 0, i, _, _, j, h1, h2 => by omega
  | k + 1, i, x, h, j, h1, h2 => by
    simp only [S.cntE] at h
    split at h
    · rename_i hg
      rcases Nat.lt_or_ge i j with h3 | h3
      · exact cntE_ok h j (by omega) (by omega)
      · obtain rfl : j = i := by omega
        exact hg
    · cases h
theorem tt_ok {nc : Nat} {t v : Nat → ByteArray} {g : Nat → Int} {nn : Nat} {tn : Nat → Int} {ng : Nat} {tg vg : Nat → Int} {rc : Int} (h : S.ttE nc t v g nn tn ng tg vg rc = 0) : (1 ≤ nc ∧ nc ≤ 6 ∧ nn = nc ∧ ng ≤ 36 ∧ 0 ≤ rc ∧ rc ≤ 1000) ∧ (∀ j, j < nc → 1 ≤ g j ∧ g j ≤ 200) ∧ ∀ j, j < nc → 0 ≤ tn j ∧ tn j ≤ 4 := by
  unfold S.ttE at h
  obtain ⟨h1, h2⟩ := nz_0 h
  split at h2
  · rename_i hn
    obtain ⟨h3, h4⟩ := nz_0 h2
    split at h4
    · cases h4
    · rename_i hg
      obtain ⟨h5, h6⟩ := nz_0 h4
      have h6 : 0 ≤ rc ∧ rc ≤ 1000 := by
        split at h6
        · assumption
        · cases h6
      unfold S.cycS at h1
      split at h1
      · cases h1
      · split at h1
        · cases h1
        · refine ⟨⟨by omega, by omega, hn, by omega, h6⟩, fun j hj => cycE_ok h1 j (Nat.zero_le _) (by omega), fun j hj => cntE_ok h3 j (Nat.zero_le _) (by omega)⟩
  · cases h2
/-- Counts that are left. -/
def CsOk (nc : Nat) (cs : List Int) : Prop := cs.length = nc ∧ ∀ j, j < nc → 0 ≤ S.at' cs j ∧ S.at' cs j ≤ 4
theorem CsOk.dec {nc : Nat} {cs : List Int} (h : CsOk nc cs) {c : Nat} (hc : c < nc) (h0 : S.at' cs c ≠ 0) : CsOk nc (S.mkl cs.length fun j => bif Nat.beq j c then S.at' cs c - 1 else S.at' cs j) := by
  obtain ⟨h1, h2⟩ := h
  refine ⟨by rw [mkl_len]; exact h1, fun j hj => ?_⟩
  rw [at_mkl (by omega)]
  have a := h2 c hc
  have d := h2 j hj
  cases Nat.beq j c
  · exact d
  · show 0 ≤ S.at' cs c - 1 ∧ S.at' cs c - 1 ≤ 4
    omega
inductive St35 where
  | h0 (x0 : Int) (x1 : Int) (x2 : Int) (x3 : Int) (x4 : List Int) (x5 : List Int)
abbrev Rt35 := Int × Bool × List Int
noncomputable def V35 (ac nc mc : Nat) (tc : Nat → ByteArray) (vc : Nat → ByteArray) (gc : Nat → Int) (wc : Nat → Bool) (an nn mn : Nat) (tn : Nat → Int) (ag ng mg : Nat) (tg : Nat → Int) (vg : Nat → Int) (rc : Int) (ao no mo : Nat) (to : Nat → Int) (r : Rt35) : PV := PV.tup [PV.own (5) (1) (List.length r.2.2), PV.int IntKind.i64 r.1, PV.bool r.2.1]
noncomputable def N35 (ac nc mc : Nat) (tc : Nat → ByteArray) (vc : Nat → ByteArray) (gc : Nat → Int) (wc : Nat → Bool) (an nn mn : Nat) (tn : Nat → Int) (ag ng mg : Nat) (tg : Nat → Int) (vg : Nat → Int) (rc : Int) (ao no mo : Nat) (to : Nat → Int) (r : Rt35) : List Blk := [Blk.cols (List.length r.2.2) [Col.int IntKind.i64 fun (j : Nat) => S.at' r.2.2 j]]
noncomputable def I35 (ac nc mc : Nat) (tc : Nat → ByteArray) (vc : Nat → ByteArray) (gc : Nat → Int) (wc : Nat → Bool) (an nn mn : Nat) (tn : Nat → Int) (ag ng mg : Nat) (tg : Nat → Int) (vg : Nat → Int) (rc : Int) (ao no mo : Nat) (to : Nat → Int) : St35 → Hd
  | .h0 x0 x1 x2 x3 x4 x5 => ⟨hd Try.f35 0, [PV.ptr (PA.mk (4) (0) (0) (0)),
 PV.own (7) (1) (List.length x5), PV.int IntKind.i64 x0,
 PV.ptr (PA.mk (5) (0) (0) (0)),
 PV.loose (PA.mk (3) (1) ao (0)) no, PV.int IntKind.i64 (↑no : Int),
 PV.int IntKind.i64 x1], [[(4, (true, Blk.cells
 [PV.loose (PA.mk (0) (4) ac (0)) nc,
 PV.loose (PA.mk (1) (1) an (0)) nn,
 PV.loose (PA.mk (2) (2) ag (0)) ng, PV.int IntKind.i64 rc])), (5, (true, Blk.cells
 [PV.own (6) (1) (List.length x4), PV.int IntKind.i64 x2,
 PV.int IntKind.i64 x3, PV.int IntKind.i64 (0 : Int)])), (6, (true, Blk.cols (List.length x4) [Col.int IntKind.i64 fun (j : Nat) => S.at' x4 j])), (7, (true, Blk.cols (List.length x5) [Col.int IntKind.i64 fun (j : Nat) => S.at' x5 j]))], [(0, (false, .cols mc [.str tc, .str vc, .int .i64 gc, .bool wc])), (1, (false, .cols mn [.int .i64 tn])), (2, (false, .cols mg [.int .i64 tg, .int .i64 vg])), (3, (false, .cols mo [.int .i64 to]))]], 8⟩
noncomputable def q35 (ac nc mc : Nat) (tc : Nat → ByteArray) (vc : Nat → ByteArray) (gc : Nat → Int) (wc : Nat → Bool) (an nn mn : Nat) (tn : Nat → Int) (ag ng mg : Nat) (tg : Nat → Int) (vg : Nat → Int) (rc : Int) (ao no mo : Nat) (to : Nat → Int) : St35 → Option (St35 ⊕ Rt35)
  | .h0 x0 x1 x2 x3 x4 x5 => bif (decide (x1 < (↑no : Int)))
 then (bif (decide ((0 : Int) ≤ x1 ∧ x1 < (↑no : Int)))
 then (bif (decide (Int.toNat x1 + ao < mo))
 then (bif (lim IntKind.i64 ((↑nc : Int) - (1 : Int)))
 then (bif (decide (to (Int.toNat x1 + ao) ≥ (0 : Int)))
 then (bif (decide (to (Int.toNat x1 + ao) ≤ (↑nc : Int) - (1 : Int)))
 then (bif (decide
 ((0 + List.length x4 ≤ List.length x4 ∧
 List.length x4 ≤ 1000 ∧ ac + nc ≤ mc ∧ ag + ng ≤ mg ∧ ng ≤ 1000 ∧ List.length x4 = nc) ∧
 ((0 : Int) ≤ to (Int.toNat x1 + ao) ∧
 to (Int.toNat x1 + ao) < (↑(List.length x4) : Int) ∧
 (0 : Int) ≤ rc ∧ rc ≤ (1000 : Int) ∧ (0 : Int) ≤ x3 ∧ x3 ≤ (1000 : Int)) ∧
 (0 : Int) ≤ S.at' x4 (Int.toNat (to (Int.toNat x1 + ao))) ∧
 S.at' x4 (Int.toNat (to (Int.toNat x1 + ao))) ≤ (1000 : Int) ∧
 (1 : Int) ≤ gc (Int.toNat (to (Int.toNat x1 + ao)) + ac) ∧
 gc (Int.toNat (to (Int.toNat x1 + ao)) + ac) ≤ (200 : Int)))
 then (bif (Prod.fst
 (Prod.snd
 (Prod.snd
 (Prod.snd
 (S.stpS (List.length x4) (fun (j : Nat) => S.at' x4 j) x3 rc
 (S.any
 (fun (j : Nat) =>
 decide (tg (j + ag) = x2) && decide (vg (j + ag) = to (Int.toNat x1 + ao)))
 ng)
 (wc (Int.toNat (to (Int.toNat x1 + ao)) + ac)) (gc (Int.toNat (to (Int.toNat x1 + ao)) + ac))
 (to (Int.toNat x1 + ao)))))))
 then (bif (lim IntKind.i64
 (x0 +
 Prod.fst
 (Prod.snd
 (Prod.snd
 (S.stpS (List.length x4) (fun (j : Nat) => S.at' x4 j) x3 rc
 (S.any
 (fun (j : Nat) =>
 decide (tg (j + ag) = x2) && decide (vg (j + ag) = to (Int.toNat x1 + ao)))
 ng)
 (wc (Int.toNat (to (Int.toNat x1 + ao)) + ac)) (gc (Int.toNat (to (Int.toNat x1 + ao)) + ac))
 (to (Int.toNat x1 + ao)))))))
 then (bif (decide ((0 : Int) ≤ to (Int.toNat x1 + ao) ∧ to (Int.toNat x1 + ao) < (↑nc : Int)))
 then (bif (decide (Int.toNat (to (Int.toNat x1 + ao)) + ac < mc))
 then (bif (lim IntKind.i64
 (x0 +
 Prod.fst
 (Prod.snd
 (Prod.snd
 (S.stpS (List.length x4) (fun (j : Nat) => S.at' x4 j) x3 rc
 (S.any
 (fun (j : Nat) =>
 decide (tg (j + ag) = x2) && decide (vg (j + ag) = to (Int.toNat x1 + ao)))
 ng)
 (wc (Int.toNat (to (Int.toNat x1 + ao)) + ac)) (gc (Int.toNat (to (Int.toNat x1 + ao)) + ac))
 (to (Int.toNat x1 + ao))))) -
 gc (Int.toNat (to (Int.toNat x1 + ao)) + ac)))
 then (bif (decide (List.length x5 + 1 ≤ 1000000))
 then (bif (decide (List.length x5 ≤ List.length x5))
 then (bif (lim IntKind.i64 (x1 + (1 : Int)))
 then (some (.inl (.h0 (x0 +
 Prod.fst
 (Prod.snd
 (Prod.snd
 (S.stpS (List.length x4) (fun (j : Nat) => S.at' x4 j) x3 rc
 (S.any
 (fun (j : Nat) =>
 decide (tg (j + ag) = x2) && decide (vg (j + ag) = to (Int.toNat x1 + ao)))
 ng)
 (wc (Int.toNat (to (Int.toNat x1 + ao)) + ac)) (gc (Int.toNat (to (Int.toNat x1 + ao)) + ac))
 (to (Int.toNat x1 + ao)))))) (x1 + (1 : Int)) (Prod.fst
 (S.stpS (List.length x4) (fun (j : Nat) => S.at' x4 j) x3 rc
 (S.any
 (fun (j : Nat) => decide (tg (j + ag) = x2) && decide (vg (j + ag) = to (Int.toNat x1 + ao)))
 ng)
 (wc (Int.toNat (to (Int.toNat x1 + ao)) + ac)) (gc (Int.toNat (to (Int.toNat x1 + ao)) + ac))
 (to (Int.toNat x1 + ao)))) (Prod.fst
 (Prod.snd
 (S.stpS (List.length x4) (fun (j : Nat) => S.at' x4 j) x3 rc
 (S.any
 (fun (j : Nat) =>
 decide (tg (j + ag) = x2) && decide (vg (j + ag) = to (Int.toNat x1 + ao)))
 ng)
 (wc (Int.toNat (to (Int.toNat x1 + ao)) + ac)) (gc (Int.toNat (to (Int.toNat x1 + ao)) + ac))
 (to (Int.toNat x1 + ao))))) (Prod.snd
 (Prod.snd
 (Prod.snd
 (Prod.snd
 (S.stpS (List.length x4) (fun (j : Nat) => S.at' x4 j) x3 rc
 (S.any
 (fun (j : Nat) =>
 decide (tg (j + ag) = x2) && decide (vg (j + ag) = to (Int.toNat x1 + ao)))
 ng)
 (wc (Int.toNat (to (Int.toNat x1 + ao)) + ac)) (gc (Int.toNat (to (Int.toNat x1 + ao)) + ac))
 (to (Int.toNat x1 + ao))))))) (S.snoc x5
 (x0 +
 Prod.fst
 (Prod.snd
 (Prod.snd
 (S.stpS (List.length x4) (fun (j : Nat) => S.at' x4 j) x3 rc
 (S.any
 (fun (j : Nat) =>
 decide (tg (j + ag) = x2) && decide (vg (j + ag) = to (Int.toNat x1 + ao)))
 ng)
 (wc (Int.toNat (to (Int.toNat x1 + ao)) + ac)) (gc (Int.toNat (to (Int.toNat x1 + ao)) + ac))
 (to (Int.toNat x1 + ao))))) -
 gc (Int.toNat (to (Int.toNat x1 + ao)) + ac))))))
 else (none))
 else (none))
 else (none))
 else (none))
 else (none))
 else (none))
 else (none))
 else (some (.inr ((0 : Int), false, []))))
 else (none))
 else (some (.inr ((0 : Int), false, []))))
 else (some (.inr ((0 : Int), false, []))))
 else (none))
 else (none))
 else (none))
 else (bif (decide
 (0 + List.length x4 ≤ List.length x4 ∧ List.length x4 ≤ 1000000 ∧ 0 < List.length x4))
 then (bif (S.maxN (fun (j : Nat) => S.at' x4 j) (List.length x4 - 1) == (0 : Int))
 then (some (.inr (x0, true, x5)))
 else (some (.inr (x0, false, x5))))
 else (none))
noncomputable def p35 (ac nc mc : Nat) (tc : Nat → ByteArray) (vc : Nat → ByteArray) (gc : Nat → Int) (wc : Nat → Bool) (an nn mn : Nat) (tn : Nat → Int) (ag ng mg : Nat) (tg : Nat → Int) (vg : Nat → Int) (rc : Int) (ao no mo : Nat) (to : Nat → Int) : Option (St35 ⊕ Rt35) := bif (decide (an + nn ≤ mn ∧ nn ≤ 1000000))
 then (some (.inl (.h0 ((0 : Int)) ((0 : Int)) ((-1 : Int)) (rc) (S.mkl nn fun (j : Nat) => tn (j + an)) ([]))))
 else (none)
noncomputable def Te35 (test : Bool → Prop → Prop → Prop) (Kst : KS) (Kret : KR) (ac nc mc : Nat) (tc : Nat → ByteArray) (vc : Nat → ByteArray) (gc : Nat → Int) (wc : Nat → Bool) (an nn mn : Nat) (tn : Nat → Int) (ag ng mg : Nat) (tg : Nat → Int) (vg : Nat → Int) (rc : Int) (ao no mo : Nat) (to : Nat → Int) : Prop :=
  test (decide (an + nn ≤ mn ∧ nn ≤ 1000000))
 (Kst (hd Try.f35 0) ([PV.ptr (PA.mk (4) (0) (0) (0)), PV.nils,
 PV.int IntKind.i64 (0 : Int), PV.ptr (PA.mk (9) (0) (0) (0)),
 PV.loose (PA.mk (3) (1) ao (0)) no, PV.int IntKind.i64 (↑no : Int),
 PV.int IntKind.i64 (0 : Int)]) ([[(3, false, Blk.cols mo [Col.int IntKind.i64 to]),
 (2, false, Blk.cols mg [Col.int IntKind.i64 tg, Col.int IntKind.i64 vg]),
 (1, false, Blk.cols mn [Col.int IntKind.i64 tn]),
 (0, false,
 Blk.cols mc [Col.str tc, Col.str vc, Col.int IntKind.i64 gc, Col.bool wc]),
 (9, true,
 Blk.cells
 [PV.own (8) (1) nn, PV.int IntKind.i64 (-1 : Int),
 PV.int IntKind.i64 rc, PV.int IntKind.i64 (0 : Int)]),
 (4, true,
 Blk.cells
 [PV.loose (PA.mk (0) (4) ac (0)) nc,
 PV.loose (PA.mk (1) (1) an (0)) nn,
 PV.loose (PA.mk (2) (2) ag (0)) ng, PV.int IntKind.i64 rc]),
 (8, true, Blk.cols nn [Col.int IntKind.i64 fun (j : Nat) => tn (j + an)])]]) (10))
 (False)
set_option maxRecDepth 100000 in
theorem te35 (test : Bool → Prop → Prop → Prop) (Kst : KS) (Kret : KR) (ac nc mc : Nat) (tc : Nat → ByteArray) (vc : Nat → ByteArray) (gc : Nat → Int) (wc : Nat → Bool) (an nn mn : Nat) (tn : Nat → Int) (ag ng mg : Nat) (tg : Nat → Int) (vg : Nat → Int) (rc : Int) (ao no mo : Nat) (to : Nat → Int) : run test Try.env true (xK test) true 400 ⟨35, [.cd (mkFn Try.f35).body], argT 0 [.agg [.loose ⟨0, 4, ac, 0⟩ nc, .loose ⟨1, 1, an, 0⟩ nn, .loose ⟨2, 2, ag, 0⟩ ng, .int .i64 rc], .loose ⟨3, 1, ao, 0⟩ no], [[], [(0, (false, .cols mc [.str tc, .str vc, .int .i64 gc, .bool wc])), (1, (false, .cols mn [.int .i64 tn])), (2, (false, .cols mg [.int .i64 tg, .int .i64 vg])), (3, (false, .cols mo [.int .i64 to]))]], 4⟩ (proj 4 [2, 7, 8, 9, 17, 18, 19] Kst Kret) =
  Te35 test Kst Kret ac nc mc tc vc gc wc an nn mn tn ag ng mg tg vg rc ao no mo to := by kernel_rfl
noncomputable def T35_0 (test : Bool → Prop → Prop → Prop) (Kst : KS) (Kret : KR) (ac nc mc : Nat) (tc : Nat → ByteArray) (vc : Nat → ByteArray) (gc : Nat → Int) (wc : Nat → Bool) (an nn mn : Nat) (tn : Nat → Int) (ag ng mg : Nat) (tg : Nat → Int) (vg : Nat → Int) (rc : Int) (ao no mo : Nat) (to : Nat → Int) (x0 : Int) (x1 : Int) (x2 : Int) (x3 : Int) (x4 : List Int) (x5 : List Int) : Prop :=
  test (decide (x1 < (↑no : Int)))
 (test (decide ((0 : Int) ≤ x1 ∧ x1 < (↑no : Int)))
 (test (decide (Int.toNat x1 + ao < mo))
 (test (lim IntKind.i64 ((↑nc : Int) - (1 : Int)))
 (test (decide (to (Int.toNat x1 + ao) ≥ (0 : Int)))
 (test (decide (to (Int.toNat x1 + ao) ≤ (↑nc : Int) - (1 : Int)))
 (test (decide
 ((0 + List.length x4 ≤ List.length x4 ∧
 List.length x4 ≤ 1000 ∧ ac + nc ≤ mc ∧ ag + ng ≤ mg ∧ ng ≤ 1000 ∧ List.length x4 = nc) ∧
 ((0 : Int) ≤ to (Int.toNat x1 + ao) ∧
 to (Int.toNat x1 + ao) < (↑(List.length x4) : Int) ∧
 (0 : Int) ≤ rc ∧ rc ≤ (1000 : Int) ∧ (0 : Int) ≤ x3 ∧ x3 ≤ (1000 : Int)) ∧
 (0 : Int) ≤ S.at' x4 (Int.toNat (to (Int.toNat x1 + ao))) ∧
 S.at' x4 (Int.toNat (to (Int.toNat x1 + ao))) ≤ (1000 : Int) ∧
 (1 : Int) ≤ gc (Int.toNat (to (Int.toNat x1 + ao)) + ac) ∧
 gc (Int.toNat (to (Int.toNat x1 + ao)) + ac) ≤ (200 : Int)))
 (test (Prod.fst
 (Prod.snd
 (Prod.snd
 (Prod.snd
 (S.stpS (List.length x4) (fun (j : Nat) => S.at' x4 j) x3 rc
 (S.any
 (fun (j : Nat) =>
 decide (tg (j + ag) = x2) && decide (vg (j + ag) = to (Int.toNat x1 + ao)))
 ng)
 (wc (Int.toNat (to (Int.toNat x1 + ao)) + ac)) (gc (Int.toNat (to (Int.toNat x1 + ao)) + ac))
 (to (Int.toNat x1 + ao)))))))
 (test (lim IntKind.i64
 (x0 +
 Prod.fst
 (Prod.snd
 (Prod.snd
 (S.stpS (List.length x4) (fun (j : Nat) => S.at' x4 j) x3 rc
 (S.any
 (fun (j : Nat) =>
 decide (tg (j + ag) = x2) && decide (vg (j + ag) = to (Int.toNat x1 + ao)))
 ng)
 (wc (Int.toNat (to (Int.toNat x1 + ao)) + ac)) (gc (Int.toNat (to (Int.toNat x1 + ao)) + ac))
 (to (Int.toNat x1 + ao)))))))
 (test (decide ((0 : Int) ≤ to (Int.toNat x1 + ao) ∧ to (Int.toNat x1 + ao) < (↑nc : Int)))
 (test (decide (Int.toNat (to (Int.toNat x1 + ao)) + ac < mc))
 (test (lim IntKind.i64
 (x0 +
 Prod.fst
 (Prod.snd
 (Prod.snd
 (S.stpS (List.length x4) (fun (j : Nat) => S.at' x4 j) x3 rc
 (S.any
 (fun (j : Nat) =>
 decide (tg (j + ag) = x2) && decide (vg (j + ag) = to (Int.toNat x1 + ao)))
 ng)
 (wc (Int.toNat (to (Int.toNat x1 + ao)) + ac)) (gc (Int.toNat (to (Int.toNat x1 + ao)) + ac))
 (to (Int.toNat x1 + ao))))) -
 gc (Int.toNat (to (Int.toNat x1 + ao)) + ac)))
 (test (decide (List.length x5 + 1 ≤ 1000000))
 (test (decide (List.length x5 ≤ List.length x5))
 (test (true)
 (test (lim IntKind.i64 (x1 + (1 : Int)))
 (Kst (hd Try.f35 0) ([PV.ptr (PA.mk (4) (0) (0) (0)),
 PV.own (12) (1) (List.length x5 + 1),
 PV.int IntKind.i64
 (x0 +
 Prod.fst
 (Prod.snd
 (Prod.snd
 (S.stpS (List.length x4) (fun (j : Nat) => S.at' x4 j) x3 rc
 (S.any
 (fun (j : Nat) =>
 decide (tg (j + ag) = x2) && decide (vg (j + ag) = to (Int.toNat x1 + ao)))
 ng)
 (wc (Int.toNat (to (Int.toNat x1 + ao)) + ac)) (gc (Int.toNat (to (Int.toNat x1 + ao)) + ac))
 (to (Int.toNat x1 + ao)))))),
 PV.ptr (PA.mk (5) (0) (0) (0)),
 PV.loose (PA.mk (3) (1) ao (0)) no, PV.int IntKind.i64 (↑no : Int),
 PV.int IntKind.i64 (x1 + (1 : Int))]) ([[(3, false, Blk.cols mo [Col.int IntKind.i64 to]),
 (2, false, Blk.cols mg [Col.int IntKind.i64 tg, Col.int IntKind.i64 vg]),
 (1, false, Blk.cols mn [Col.int IntKind.i64 tn]),
 (0, false,
 Blk.cols mc [Col.str tc, Col.str vc, Col.int IntKind.i64 gc, Col.bool wc]),
 (5, true,
 Blk.cells
 [PV.own (9) (1)
 (List.length
 (Prod.snd
 (Prod.snd
 (Prod.snd
 (Prod.snd
 (S.stpS (List.length x4) (fun (j : Nat) => S.at' x4 j) x3 rc
 (S.any
 (fun (j : Nat) =>
 decide (tg (j + ag) = x2) &&
 decide (vg (j + ag) = to (Int.toNat x1 + ao)))
 ng)
 (wc (Int.toNat (to (Int.toNat x1 + ao)) + ac)) (gc (Int.toNat (to (Int.toNat x1 + ao)) + ac))
 (to (Int.toNat x1 + ao)))))))),
 PV.int IntKind.i64
 (Prod.fst
 (S.stpS (List.length x4) (fun (j : Nat) => S.at' x4 j) x3 rc
 (S.any
 (fun (j : Nat) =>
 decide (tg (j + ag) = x2) && decide (vg (j + ag) = to (Int.toNat x1 + ao)))
 ng)
 (wc (Int.toNat (to (Int.toNat x1 + ao)) + ac)) (gc (Int.toNat (to (Int.toNat x1 + ao)) + ac))
 (to (Int.toNat x1 + ao)))),
 PV.int IntKind.i64
 (Prod.fst
 (Prod.snd
 (S.stpS (List.length x4) (fun (j : Nat) => S.at' x4 j) x3 rc
 (S.any
 (fun (j : Nat) =>
 decide (tg (j + ag) = x2) && decide (vg (j + ag) = to (Int.toNat x1 + ao)))
 ng)
 (wc (Int.toNat (to (Int.toNat x1 + ao)) + ac)) (gc (Int.toNat (to (Int.toNat x1 + ao)) + ac))
 (to (Int.toNat x1 + ao))))),
 PV.int IntKind.i64 (0 : Int)]),
 (12, true,
 Blk.cols (List.length x5 + 1)
 [Col.int IntKind.i64 fun (j : Nat) =>
 bif Nat.blt j (List.length x5) then S.at' x5 j
 else
 x0 +
 Prod.fst
 (Prod.snd
 (Prod.snd
 (S.stpS (List.length x4) (fun (j : Nat) => S.at' x4 j) x3 rc
 (S.any
 (fun (j : Nat) =>
 decide (tg (j + ag) = x2) &&
 decide (vg (j + ag) = to (Int.toNat x1 + ao)))
 ng)
 (wc (Int.toNat (to (Int.toNat x1 + ao)) + ac)) (gc (Int.toNat (to (Int.toNat x1 + ao)) + ac))
 (to (Int.toNat x1 + ao))))) -
 gc (Int.toNat (to (Int.toNat x1 + ao)) + ac)]),
 (4, true,
 Blk.cells
 [PV.loose (PA.mk (0) (4) ac (0)) nc,
 PV.loose (PA.mk (1) (1) an (0)) nn,
 PV.loose (PA.mk (2) (2) ag (0)) ng, PV.int IntKind.i64 rc]),
 (9, true,
 Blk.cols
 (List.length
 (Prod.snd
 (Prod.snd
 (Prod.snd
 (Prod.snd
 (S.stpS (List.length x4) (fun (j : Nat) => S.at' x4 j) x3 rc
 (S.any
 (fun (j : Nat) =>
 decide (tg (j + ag) = x2) && decide (vg (j + ag) = to (Int.toNat x1 + ao)))
 ng)
 (wc (Int.toNat (to (Int.toNat x1 + ao)) + ac)) (gc (Int.toNat (to (Int.toNat x1 + ao)) + ac))
 (to (Int.toNat x1 + ao))))))))
 [Col.int IntKind.i64 fun (j : Nat) =>
 S.at'
 (Prod.snd
 (Prod.snd
 (Prod.snd
 (Prod.snd
 (S.stpS (List.length x4) (fun (j : Nat) => S.at' x4 j) x3 rc
 (S.any
 (fun (j : Nat) =>
 decide (tg (j + ag) = x2) &&
 decide (vg (j + ag) = to (Int.toNat x1 + ao)))
 ng)
 (wc (Int.toNat (to (Int.toNat x1 + ao)) + ac)) (gc (Int.toNat (to (Int.toNat x1 + ao)) + ac))
 (to (Int.toNat x1 + ao)))))))
 j])]]) (13))
 (False))
 (False))
 (False))
 (False))
 (False))
 (False))
 (False))
 (False))
 (Kret (PV.tup [PV.nils, PV.int IntKind.i64 (0 : Int), PV.tf false]) ([[(3, false, Blk.cols mo [Col.int IntKind.i64 to]),
 (2, false, Blk.cols mg [Col.int IntKind.i64 tg, Col.int IntKind.i64 vg]),
 (1, false, Blk.cols mn [Col.int IntKind.i64 tn]),
 (0, false,
 Blk.cols mc [Col.str tc, Col.str vc, Col.int IntKind.i64 gc, Col.bool wc])]]) (11)))
 (False))
 (Kret (PV.tup [PV.nils, PV.int IntKind.i64 (0 : Int), PV.tf false]) ([[(3, false, Blk.cols mo [Col.int IntKind.i64 to]),
 (2, false, Blk.cols mg [Col.int IntKind.i64 tg, Col.int IntKind.i64 vg]),
 (1, false, Blk.cols mn [Col.int IntKind.i64 tn]),
 (0, false,
 Blk.cols mc [Col.str tc, Col.str vc, Col.int IntKind.i64 gc, Col.bool wc])]]) (8)))
 (Kret (PV.tup [PV.nils, PV.int IntKind.i64 (0 : Int), PV.tf false]) ([[(3, false, Blk.cols mo [Col.int IntKind.i64 to]),
 (2, false, Blk.cols mg [Col.int IntKind.i64 tg, Col.int IntKind.i64 vg]),
 (1, false, Blk.cols mn [Col.int IntKind.i64 tn]),
 (0, false,
 Blk.cols mc [Col.str tc, Col.str vc, Col.int IntKind.i64 gc, Col.bool wc])]]) (8)))
 (False))
 (False))
 (False))
 (test (decide
 (0 + List.length x4 ≤ List.length x4 ∧ List.length x4 ≤ 1000000 ∧ 0 < List.length x4))
 (test (S.maxN (fun (j : Nat) => S.at' x4 j) (List.length x4 - 1) == (0 : Int))
 (Kret (PV.tup
 [PV.own (7) (1) (List.length x5), PV.int IntKind.i64 x0, PV.tf true]) ([[(3, false, Blk.cols mo [Col.int IntKind.i64 to]),
 (2, false, Blk.cols mg [Col.int IntKind.i64 tg, Col.int IntKind.i64 vg]),
 (1, false, Blk.cols mn [Col.int IntKind.i64 tn]),
 (0, false,
 Blk.cols mc [Col.str tc, Col.str vc, Col.int IntKind.i64 gc, Col.bool wc]),
 (7, true,
 Blk.cols (List.length x5) [Col.int IntKind.i64 fun (j : Nat) => S.at' x5 j])]]) (9))
 (Kret (PV.tup
 [PV.own (7) (1) (List.length x5), PV.int IntKind.i64 x0, PV.tf false]) ([[(3, false, Blk.cols mo [Col.int IntKind.i64 to]),
 (2, false, Blk.cols mg [Col.int IntKind.i64 tg, Col.int IntKind.i64 vg]),
 (1, false, Blk.cols mn [Col.int IntKind.i64 tn]),
 (0, false,
 Blk.cols mc [Col.str tc, Col.str vc, Col.int IntKind.i64 gc, Col.bool wc]),
 (7, true,
 Blk.cols (List.length x5) [Col.int IntKind.i64 fun (j : Nat) => S.at' x5 j])]]) (9)))
 (False))
set_option maxRecDepth 100000 in
theorem t35_0 (test : Bool → Prop → Prop → Prop) (Kst : KS) (Kret : KR) (ac nc mc : Nat) (tc : Nat → ByteArray) (vc : Nat → ByteArray) (gc : Nat → Int) (wc : Nat → Bool) (an nn mn : Nat) (tn : Nat → Int) (ag ng mg : Nat) (tg : Nat → Int) (vg : Nat → Int) (rc : Int) (ao no mo : Nat) (to : Nat → Int) (x0 : Int) (x1 : Int) (x2 : Int) (x3 : Int) (x4 : List Int) (x5 : List Int) : run test Try.env true (xK test) true 400 ⟨35, hd Try.f35 0, zipT [2, 7, 8, 9, 17, 18, 19] [PV.ptr (PA.mk (4) (0) (0) (0)),
 PV.own (7) (1) (List.length x5), PV.int IntKind.i64 x0,
 PV.ptr (PA.mk (5) (0) (0) (0)),
 PV.loose (PA.mk (3) (1) ao (0)) no, PV.int IntKind.i64 (↑no : Int),
 PV.int IntKind.i64 x1], [[(4, (true, Blk.cells
 [PV.loose (PA.mk (0) (4) ac (0)) nc,
 PV.loose (PA.mk (1) (1) an (0)) nn,
 PV.loose (PA.mk (2) (2) ag (0)) ng, PV.int IntKind.i64 rc])), (5, (true, Blk.cells
 [PV.own (6) (1) (List.length x4), PV.int IntKind.i64 x2,
 PV.int IntKind.i64 x3, PV.int IntKind.i64 (0 : Int)])), (6, (true, Blk.cols (List.length x4) [Col.int IntKind.i64 fun (j : Nat) => S.at' x4 j])), (7, (true, Blk.cols (List.length x5) [Col.int IntKind.i64 fun (j : Nat) => S.at' x5 j]))], [(0, (false, .cols mc [.str tc, .str vc, .int .i64 gc, .bool wc])), (1, (false, .cols mn [.int .i64 tn])), (2, (false, .cols mg [.int .i64 tg, .int .i64 vg])), (3, (false, .cols mo [.int .i64 to]))]], 8⟩ (proj 4 [2, 7, 8, 9, 17, 18, 19] Kst Kret) =
  T35_0 test Kst Kret ac nc mc tc vc gc wc an nn mn tn ag ng mg tg vg rc ao no mo to x0 x1 x2 x3 x4 x5 := by kernel_rfl
attribute [local irreducible] Int.subNatNat in
set_option maxRecDepth 100000 in
theorem be35 (ac nc mc : Nat) (tc : Nat → ByteArray) (vc : Nat → ByteArray) (gc : Nat → Int) (wc : Nat → Bool) (an nn mn : Nat) (tn : Nat → Int) (ag ng mg : Nat) (tg : Nat → Int) (vg : Nat → Int) (rc : Int) (ao no mo : Nat) (to : Nat → Int) (Kst : KS) (Kret : KR) (x : St35 ⊕ Rt35) (hS : HS 4 400 ((I35 ac nc mc tc vc gc wc an nn mn tn ag ng mg tg vg rc ao no mo to)) Kst x) (hR : HR 4 400 ((V35 ac nc mc tc vc gc wc an nn mn tn ag ng mg tg vg rc ao no mo to)) (fun r => [newL (4 + 1) ((N35 ac nc mc tc vc gc wc an nn mn tn ag ng mg tg vg rc ao no mo to) r) ++ [(0, (false, .cols mc [.str tc, .str vc, .int .i64 gc, .bool wc])), (1, (false, .cols mn [.int .i64 tn])), (2, (false, .cols mg [.int .i64 tg, .int .i64 vg])), (3, (false, .cols mo [.int .i64 to]))]]) Kret x) (h : (bif (decide (an + nn ≤ mn ∧ nn ≤ 1000000))
 then (some (.inl (.h0 ((0 : Int)) ((0 : Int)) ((-1 : Int)) (rc) (S.mkl nn fun (j : Nat) => tn (j + an)) ([]))))
 else (none) : Option (St35 ⊕ Rt35)) = some x) : Te35 cond Kst Kret ac nc mc tc vc gc wc an nn mn tn ag ng mg tg vg rc ao no mo to := by
  unfold Te35
  exact bif_split h
   (fun c0 h => stop_at hS _ h (fun n => bif Nat.beq n 4 then 4 else bif Nat.beq n 5 then 9 else bif Nat.beq n 6 then 8 else bif Nat.beq n 7 then 399 else n) rfl rfl rfl ⟨(rn_ptr (use_own rfl) rfl rfl), ⟨(rn_own_nils rfl), ⟨(rn_int rfl), ⟨(rn_ptr (use_own rfl) rfl rfl), ⟨(rn_loose (use_lo rfl) rfl rfl rfl), ⟨(rn_int rfl), ⟨(rn_int rfl), trivial⟩⟩⟩⟩⟩⟩⟩ rfl (entl_b (use_own rfl) rfl (by simp) (rb_cells ⟨(rn_loose (use_lo rfl) rfl rfl rfl), (rn_loose (use_lo rfl) rfl rfl rfl), (rn_loose (use_lo rfl) rfl rfl rfl), (rn_int rfl), trivial⟩) (entl_b (use_own rfl) rfl (by simp) (rb_cells ⟨(rn_own (use_own rfl) rfl mkl_len), (rn_int rfl), (rn_int rfl), (rn_int rfl), trivial⟩) (entl_new (use_own rfl) rfl (Nat.le_of_eq mkl_len) (rcs_int (fun _ hj => col_mkl (fun (t : Int) => t) hj) rcs_nil) (entl_fresh (use_own rfl) (fresh_ok rfl) (entl_bor (use_lo rfl) rfl rfl (entl_bor (use_lo rfl) rfl rfl (entl_bor (use_lo rfl) rfl rfl (entl_bor (use_lo rfl) rfl rfl entl_nil)))))))))
   (fun c0 h => no_some h)
attribute [local irreducible] Int.subNatNat in
set_option maxRecDepth 100000 in
theorem b35_0 (ac nc mc : Nat) (tc : Nat → ByteArray) (vc : Nat → ByteArray) (gc : Nat → Int) (wc : Nat → Bool) (an nn mn : Nat) (tn : Nat → Int) (ag ng mg : Nat) (tg : Nat → Int) (vg : Nat → Int) (rc : Int) (ao no mo : Nat) (to : Nat → Int) (Kst : KS) (Kret : KR) (x : St35 ⊕ Rt35) (hS : HS 4 400 ((I35 ac nc mc tc vc gc wc an nn mn tn ag ng mg tg vg rc ao no mo to)) Kst x) (hR : HR 4 400 ((V35 ac nc mc tc vc gc wc an nn mn tn ag ng mg tg vg rc ao no mo to)) (fun r => [newL (4 + 1) ((N35 ac nc mc tc vc gc wc an nn mn tn ag ng mg tg vg rc ao no mo to) r) ++ [(0, (false, .cols mc [.str tc, .str vc, .int .i64 gc, .bool wc])), (1, (false, .cols mn [.int .i64 tn])), (2, (false, .cols mg [.int .i64 tg, .int .i64 vg])), (3, (false, .cols mo [.int .i64 to]))]]) Kret x) (x0 : Int) (x1 : Int) (x2 : Int) (x3 : Int) (x4 : List Int) (x5 : List Int) (h : (bif (decide (x1 < (↑no : Int)))
 then (bif (decide ((0 : Int) ≤ x1 ∧ x1 < (↑no : Int)))
 then (bif (decide (Int.toNat x1 + ao < mo))
 then (bif (lim IntKind.i64 ((↑nc : Int) - (1 : Int)))
 then (bif (decide (to (Int.toNat x1 + ao) ≥ (0 : Int)))
 then (bif (decide (to (Int.toNat x1 + ao) ≤ (↑nc : Int) - (1 : Int)))
 then (bif (decide
 ((0 + List.length x4 ≤ List.length x4 ∧
 List.length x4 ≤ 1000 ∧ ac + nc ≤ mc ∧ ag + ng ≤ mg ∧ ng ≤ 1000 ∧ List.length x4 = nc) ∧
 ((0 : Int) ≤ to (Int.toNat x1 + ao) ∧
 to (Int.toNat x1 + ao) < (↑(List.length x4) : Int) ∧
 (0 : Int) ≤ rc ∧ rc ≤ (1000 : Int) ∧ (0 : Int) ≤ x3 ∧ x3 ≤ (1000 : Int)) ∧
 (0 : Int) ≤ S.at' x4 (Int.toNat (to (Int.toNat x1 + ao))) ∧
 S.at' x4 (Int.toNat (to (Int.toNat x1 + ao))) ≤ (1000 : Int) ∧
 (1 : Int) ≤ gc (Int.toNat (to (Int.toNat x1 + ao)) + ac) ∧
 gc (Int.toNat (to (Int.toNat x1 + ao)) + ac) ≤ (200 : Int)))
 then (bif (Prod.fst
 (Prod.snd
 (Prod.snd
 (Prod.snd
 (S.stpS (List.length x4) (fun (j : Nat) => S.at' x4 j) x3 rc
 (S.any
 (fun (j : Nat) =>
 decide (tg (j + ag) = x2) && decide (vg (j + ag) = to (Int.toNat x1 + ao)))
 ng)
 (wc (Int.toNat (to (Int.toNat x1 + ao)) + ac)) (gc (Int.toNat (to (Int.toNat x1 + ao)) + ac))
 (to (Int.toNat x1 + ao)))))))
 then (bif (lim IntKind.i64
 (x0 +
 Prod.fst
 (Prod.snd
 (Prod.snd
 (S.stpS (List.length x4) (fun (j : Nat) => S.at' x4 j) x3 rc
 (S.any
 (fun (j : Nat) =>
 decide (tg (j + ag) = x2) && decide (vg (j + ag) = to (Int.toNat x1 + ao)))
 ng)
 (wc (Int.toNat (to (Int.toNat x1 + ao)) + ac)) (gc (Int.toNat (to (Int.toNat x1 + ao)) + ac))
 (to (Int.toNat x1 + ao)))))))
 then (bif (decide ((0 : Int) ≤ to (Int.toNat x1 + ao) ∧ to (Int.toNat x1 + ao) < (↑nc : Int)))
 then (bif (decide (Int.toNat (to (Int.toNat x1 + ao)) + ac < mc))
 then (bif (lim IntKind.i64
 (x0 +
 Prod.fst
 (Prod.snd
 (Prod.snd
 (S.stpS (List.length x4) (fun (j : Nat) => S.at' x4 j) x3 rc
 (S.any
 (fun (j : Nat) =>
 decide (tg (j + ag) = x2) && decide (vg (j + ag) = to (Int.toNat x1 + ao)))
 ng)
 (wc (Int.toNat (to (Int.toNat x1 + ao)) + ac)) (gc (Int.toNat (to (Int.toNat x1 + ao)) + ac))
 (to (Int.toNat x1 + ao))))) -
 gc (Int.toNat (to (Int.toNat x1 + ao)) + ac)))
 then (bif (decide (List.length x5 + 1 ≤ 1000000))
 then (bif (decide (List.length x5 ≤ List.length x5))
 then (bif (lim IntKind.i64 (x1 + (1 : Int)))
 then (some (.inl (.h0 (x0 +
 Prod.fst
 (Prod.snd
 (Prod.snd
 (S.stpS (List.length x4) (fun (j : Nat) => S.at' x4 j) x3 rc
 (S.any
 (fun (j : Nat) =>
 decide (tg (j + ag) = x2) && decide (vg (j + ag) = to (Int.toNat x1 + ao)))
 ng)
 (wc (Int.toNat (to (Int.toNat x1 + ao)) + ac)) (gc (Int.toNat (to (Int.toNat x1 + ao)) + ac))
 (to (Int.toNat x1 + ao)))))) (x1 + (1 : Int)) (Prod.fst
 (S.stpS (List.length x4) (fun (j : Nat) => S.at' x4 j) x3 rc
 (S.any
 (fun (j : Nat) => decide (tg (j + ag) = x2) && decide (vg (j + ag) = to (Int.toNat x1 + ao)))
 ng)
 (wc (Int.toNat (to (Int.toNat x1 + ao)) + ac)) (gc (Int.toNat (to (Int.toNat x1 + ao)) + ac))
 (to (Int.toNat x1 + ao)))) (Prod.fst
 (Prod.snd
 (S.stpS (List.length x4) (fun (j : Nat) => S.at' x4 j) x3 rc
 (S.any
 (fun (j : Nat) =>
 decide (tg (j + ag) = x2) && decide (vg (j + ag) = to (Int.toNat x1 + ao)))
 ng)
 (wc (Int.toNat (to (Int.toNat x1 + ao)) + ac)) (gc (Int.toNat (to (Int.toNat x1 + ao)) + ac))
 (to (Int.toNat x1 + ao))))) (Prod.snd
 (Prod.snd
 (Prod.snd
 (Prod.snd
 (S.stpS (List.length x4) (fun (j : Nat) => S.at' x4 j) x3 rc
 (S.any
 (fun (j : Nat) =>
 decide (tg (j + ag) = x2) && decide (vg (j + ag) = to (Int.toNat x1 + ao)))
 ng)
 (wc (Int.toNat (to (Int.toNat x1 + ao)) + ac)) (gc (Int.toNat (to (Int.toNat x1 + ao)) + ac))
 (to (Int.toNat x1 + ao))))))) (S.snoc x5
 (x0 +
 Prod.fst
 (Prod.snd
 (Prod.snd
 (S.stpS (List.length x4) (fun (j : Nat) => S.at' x4 j) x3 rc
 (S.any
 (fun (j : Nat) =>
 decide (tg (j + ag) = x2) && decide (vg (j + ag) = to (Int.toNat x1 + ao)))
 ng)
 (wc (Int.toNat (to (Int.toNat x1 + ao)) + ac)) (gc (Int.toNat (to (Int.toNat x1 + ao)) + ac))
 (to (Int.toNat x1 + ao))))) -
 gc (Int.toNat (to (Int.toNat x1 + ao)) + ac))))))
 else (none))
 else (none))
 else (none))
 else (none))
 else (none))
 else (none))
 else (none))
 else (some (.inr ((0 : Int), false, []))))
 else (none))
 else (some (.inr ((0 : Int), false, []))))
 else (some (.inr ((0 : Int), false, []))))
 else (none))
 else (none))
 else (none))
 else (bif (decide
 (0 + List.length x4 ≤ List.length x4 ∧ List.length x4 ≤ 1000000 ∧ 0 < List.length x4))
 then (bif (S.maxN (fun (j : Nat) => S.at' x4 j) (List.length x4 - 1) == (0 : Int))
 then (some (.inr (x0, true, x5)))
 else (some (.inr (x0, false, x5))))
 else (none)) : Option (St35 ⊕ Rt35)) = some x) : T35_0 cond Kst Kret ac nc mc tc vc gc wc an nn mn tn ag ng mg tg vg rc ao no mo to x0 x1 x2 x3 x4 x5 := by
  unfold T35_0
  exact bif_split h
   (fun c0 h => bif_split h
   (fun c1 h => bif_split h
   (fun c2 h => bif_split h
   (fun c3 h => bif_split h
   (fun c4 h => bif_split h
   (fun c5 h => bif_split h
   (fun c6 h => bif_split h
   (fun c7 h => bif_split h
   (fun c8 h => bif_split h
   (fun c9 h => bif_split h
   (fun c10 h => bif_split h
   (fun c11 h => bif_split h
   (fun c12 h => bif_split h
   (fun c13 h => cond_yes rfl (bif_split h
   (fun c14 h => stop_at hS _ h (fun n => bif Nat.beq n 4 then 4 else bif Nat.beq n 5 then 5 else bif Nat.beq n 6 then 9 else bif Nat.beq n 7 then 12 else n) rfl rfl rfl ⟨(rn_ptr (use_own rfl) rfl rfl), ⟨(rn_own (use_own rfl) rfl (snoc_len' rfl)), ⟨(rn_int rfl), ⟨(rn_ptr (use_own rfl) rfl rfl), ⟨(rn_loose (use_lo rfl) rfl rfl rfl), ⟨(rn_int rfl), ⟨(rn_int rfl), trivial⟩⟩⟩⟩⟩⟩⟩ rfl (entl_b (use_own rfl) rfl (by simp) (rb_cells ⟨(rn_loose (use_lo rfl) rfl rfl rfl), (rn_loose (use_lo rfl) rfl rfl rfl), (rn_loose (use_lo rfl) rfl rfl rfl), (rn_int rfl), trivial⟩) (entl_b (use_own rfl) rfl (by simp) (rb_cells ⟨(rn_own (use_own rfl) rfl rfl), (rn_int rfl), (rn_int rfl), (rn_int rfl), trivial⟩) (entl_new (use_own rfl) rfl (Nat.le_of_eq rfl) (rcs_int (fun _ _ => rfl) rcs_nil) (entl_new (use_own rfl) rfl (Nat.le_of_eq (snoc_len' rfl)) (rcs_int (col_snoc' (fun (t : Int) => t) rfl (fun _ _ => rfl)) rcs_nil) (entl_bor (use_lo rfl) rfl rfl (entl_bor (use_lo rfl) rfl rfl (entl_bor (use_lo rfl) rfl rfl (entl_bor (use_lo rfl) rfl rfl entl_nil)))))))))
   (fun c14 h => no_some h)))
   (fun c13 h => no_some h))
   (fun c12 h => no_some h))
   (fun c11 h => no_some h))
   (fun c10 h => no_some h))
   (fun c9 h => no_some h))
   (fun c8 h => no_some h))
   (fun c7 h => ret_at hR _ h (fun n => bif Nat.beq n 5 then 399 else n) rfl rfl rfl (rn_tup ⟨(rn_own_nils rfl), (rn_int rfl), (rn_bool_tf rfl), trivial⟩) rfl (entl_fresh (use_own rfl) (fresh_ok rfl) (entl_bor (use_lo rfl) rfl rfl (entl_bor (use_lo rfl) rfl rfl (entl_bor (use_lo rfl) rfl rfl (entl_bor (use_lo rfl) rfl rfl entl_nil)))))))
   (fun c6 h => no_some h))
   (fun c5 h => ret_at hR _ h (fun n => bif Nat.beq n 5 then 399 else n) rfl rfl rfl (rn_tup ⟨(rn_own_nils rfl), (rn_int rfl), (rn_bool_tf rfl), trivial⟩) rfl (entl_fresh (use_own rfl) (fresh_ok rfl) (entl_bor (use_lo rfl) rfl rfl (entl_bor (use_lo rfl) rfl rfl (entl_bor (use_lo rfl) rfl rfl (entl_bor (use_lo rfl) rfl rfl entl_nil)))))))
   (fun c4 h => ret_at hR _ h (fun n => bif Nat.beq n 5 then 399 else n) rfl rfl rfl (rn_tup ⟨(rn_own_nils rfl), (rn_int rfl), (rn_bool_tf rfl), trivial⟩) rfl (entl_fresh (use_own rfl) (fresh_ok rfl) (entl_bor (use_lo rfl) rfl rfl (entl_bor (use_lo rfl) rfl rfl (entl_bor (use_lo rfl) rfl rfl (entl_bor (use_lo rfl) rfl rfl entl_nil)))))))
   (fun c3 h => no_some h))
   (fun c2 h => no_some h))
   (fun c1 h => no_some h))
   (fun c0 h => bif_split h
   (fun c1 h => bif_split h
   (fun c2 h => ret_at hR _ h (fun n => bif Nat.beq n 5 then 7 else n) rfl rfl rfl (rn_tup ⟨(rn_own (use_own rfl) rfl rfl), (rn_int rfl), (rn_bool_tf rfl), trivial⟩) rfl (entl_new (use_own rfl) rfl (Nat.le_of_eq rfl) (rcs_int (fun _ _ => rfl) rcs_nil) (entl_bor (use_lo rfl) rfl rfl (entl_bor (use_lo rfl) rfl rfl (entl_bor (use_lo rfl) rfl rfl (entl_bor (use_lo rfl) rfl rfl entl_nil))))))
   (fun c2 h => ret_at hR _ h (fun n => bif Nat.beq n 5 then 7 else n) rfl rfl rfl (rn_tup ⟨(rn_own (use_own rfl) rfl rfl), (rn_int rfl), (rn_bool_tf rfl), trivial⟩) rfl (entl_new (use_own rfl) rfl (Nat.le_of_eq rfl) (rcs_int (fun _ _ => rfl) rcs_nil) (entl_bor (use_lo rfl) rfl rfl (entl_bor (use_lo rfl) rfl rfl (entl_bor (use_lo rfl) rfl rfl (entl_bor (use_lo rfl) rfl rfl entl_nil)))))))
   (fun c1 h => no_some h))
theorem a35 (ac nc mc : Nat) (tc : Nat → ByteArray) (vc : Nat → ByteArray) (gc : Nat → Int) (wc : Nat → Bool) (an nn mn : Nat) (tn : Nat → Int) (ag ng mg : Nat) (tg : Nat → Int) (vg : Nat → Int) (rc : Int) (ao no mo : Nat) (to : Nat → Int) {r : Rt35} (h : Goes ((q35 ac nc mc tc vc gc wc an nn mn tn ag ng mg tg vg rc ao no mo to)) ((p35 ac nc mc tc vc gc wc an nn mn tn ag ng mg tg vg rc ao no mo to)) r) : CallR Try.prog 35 [.agg [.loose ⟨0, 4, ac, 0⟩ nc, .loose ⟨1, 1, an, 0⟩ nn, .loose ⟨2, 2, ag, 0⟩ ng, .int .i64 rc], .loose ⟨3, 1, ao, 0⟩ no] [[(0, (false, .cols mc [.str tc, .str vc, .int .i64 gc, .bool wc])), (1, (false, .cols mn [.int .i64 tn])), (2, (false, .cols mg [.int .i64 tg, .int .i64 vg])), (3, (false, .cols mo [.int .i64 to]))]] 4 ((V35 ac nc mc tc vc gc wc an nn mn tn ag ng mg tg vg rc ao no mo to) r) ((fun r => [newL (4 + 1) ((N35 ac nc mc tc vc gc wc an nn mn tn ag ng mg tg vg rc ao no mo to) r) ++ [(0, (false, .cols mc [.str tc, .str vc, .int .i64 gc, .bool wc])), (1, (false, .cols mn [.int .i64 tn])), (2, (false, .cols mg [.int .i64 tg, .int .i64 vg])), (3, (false, .cols mo [.int .i64 to]))]]) r) 400 ∧ ∃ F, Try.prog.funcs[35]? = some F ∧ F.body.isSome = true ∧ (F.name == "runtime.NumGoroutine") = false := by
  refine dec_calls (f := 35) (lo := 4) (hi := 400) (H := [[(0, (false, .cols mc [.str tc, .str vc, .int .i64 gc, .bool wc])), (1, (false, .cols mn [.int .i64 tn])), (2, (false, .cols mg [.int .i64 tg, .int .i64 vg])), (3, (false, .cols mo [.int .i64 to]))]]) (args := [.agg [.loose ⟨0, 4, ac, 0⟩ nc, .loose ⟨1, 1, an, 0⟩ nn, .loose ⟨2, 2, ag, 0⟩ ng, .int .i64 rc], .loose ⟨3, 1, ao, 0⟩ no]) Try.envOk Try.mixed xK_ok ((I35 ac nc mc tc vc gc wc an nn mn tn ag ng mg tg vg rc ao no mo to)) ((V35 ac nc mc tc vc gc wc an nn mn tn ag ng mg tg vg rc ao no mo to)) (fun r => [newL (4 + 1) ((N35 ac nc mc tc vc gc wc an nn mn tn ag ng mg tg vg rc ao no mo to) r) ++ [(0, (false, .cols mc [.str tc, .str vc, .int .i64 gc, .bool wc])), (1, (false, .cols mn [.int .i64 tn])), (2, (false, .cols mg [.int .i64 tg, .int .i64 vg])), (3, (false, .cols mo [.int .i64 to]))]]) (fn := mkFn Try.f35) (ts := [2, 7, 8, 9, 17, 18, 19]) (n := 400) rfl (by decide) (by simp) (names_of rfl) ?_ ?_ ?_ h
  · intro s; cases s <;> exact ⟨hd_ok _ _, by simp [I35], names_of rfl, Nat.le_of_ble_eq_true rfl⟩
  · intro Kst Kret x hS hR h
    exact Holds.eq (te35 cond Kst Kret ac nc mc tc vc gc wc an nn mn tn ag ng mg tg vg rc ao no mo to) (be35 ac nc mc tc vc gc wc an nn mn tn ag ng mg tg vg rc ao no mo to Kst Kret x hS hR h)
  · intro Kst Kret x hS hR s h
    cases s with
    | h0 x0 x1 x2 x3 x4 x5 => exact Holds.eq (t35_0 cond Kst Kret ac nc mc tc vc gc wc an nn mn tn ag ng mg tg vg rc ao no mo to x0 x1 x2 x3 x4 x5) (b35_0 ac nc mc tc vc gc wc an nn mn tn ag ng mg tg vg rc ao no mo to Kst Kret x hS hR x0 x1 x2 x3 x4 x5 h)
noncomputable def k35 : Con := ⟨35, [.agg [.list [.str, .str, .int .i64, .bool], .list [.int .i64], .list [.int .i64, .int .i64], .plain (.int .i64)], .one (.list [.int .i64])], fun (x : ((Nat × Nat × Nat × (Nat → ByteArray) × (Nat → ByteArray) × (Nat → Int) × (Nat → Bool) × Unit) × (Nat × Nat × Nat × (Nat → Int) × Unit) × (Nat × Nat × Nat × (Nat → Int) × (Nat → Int) × Unit) × Int × Unit) × (Nat × Nat × Nat × (Nat → Int) × Unit) × Unit) => (fun (ac nc mc : Nat) (tc : Nat → ByteArray) (vc : Nat → ByteArray) (gc : Nat → Int) (wc : Nat → Bool) (an nn mn : Nat) (tn : Nat → Int) (ag ng mg : Nat) (tg : Nat → Int) (vg : Nat → Int) (rc : Int) (ao no mo : Nat) (to : Nat → Int) => decide ((ac + nc ≤ mc ∧ an + nn ≤ mn ∧ ag + ng ≤ mg ∧ ao + no ≤ mo ∧ no ≤ 20) ∧ S.ttE nc (fun j => tc (j + ac)) (fun j => vc (j + ac)) (fun j => gc (j + ac)) nn (fun j => tn (j + an)) ng (fun j => tg (j + ag)) (fun j => vg (j + ag)) rc = 0)) x.1.1.1 x.1.1.2.1 x.1.1.2.2.1 x.1.1.2.2.2.1 x.1.1.2.2.2.2.1 x.1.1.2.2.2.2.2.1 x.1.1.2.2.2.2.2.2.1 x.1.2.1.1 x.1.2.1.2.1 x.1.2.1.2.2.1 x.1.2.1.2.2.2.1 x.1.2.2.1.1 x.1.2.2.1.2.1 x.1.2.2.1.2.2.1 x.1.2.2.1.2.2.2.1 x.1.2.2.1.2.2.2.2.1 x.1.2.2.2.1 x.2.1.1 x.2.1.2.1 x.2.1.2.2.1 x.2.1.2.2.2.1, fun (x : ((Nat × Nat × Nat × (Nat → ByteArray) × (Nat → ByteArray) × (Nat → Int) × (Nat → Bool) × Unit) × (Nat × Nat × Nat × (Nat → Int) × Unit) × (Nat × Nat × Nat × (Nat → Int) × (Nat → Int) × Unit) × Int × Unit) × (Nat × Nat × Nat × (Nat → Int) × Unit) × Unit) => (fun (ac nc mc : Nat) (tc : Nat → ByteArray) (vc : Nat → ByteArray) (gc : Nat → Int) (wc : Nat → Bool) (an nn mn : Nat) (tn : Nat → Int) (ag ng mg : Nat) (tg : Nat → Int) (vg : Nat → Int) (rc : Int) (ao no mo : Nat) (to : Nat → Int) => (V35 ac nc mc tc vc gc wc an nn mn tn ag ng mg tg vg rc ao no mo to) (S.runS nc (fun j => gc (j + ac)) (fun j => wc (j + ac)) ng (fun j => tg (j + ag)) (fun j => vg (j + ag)) rc (fun j => to (j + ao)) 0 no 0 (-1) rc (S.mkl nn (fun j => tn (j + an))) [])) x.1.1.1 x.1.1.2.1 x.1.1.2.2.1 x.1.1.2.2.2.1 x.1.1.2.2.2.2.1 x.1.1.2.2.2.2.2.1 x.1.1.2.2.2.2.2.2.1 x.1.2.1.1 x.1.2.1.2.1 x.1.2.1.2.2.1 x.1.2.1.2.2.2.1 x.1.2.2.1.1 x.1.2.2.1.2.1 x.1.2.2.1.2.2.1 x.1.2.2.1.2.2.2.1 x.1.2.2.1.2.2.2.2.1 x.1.2.2.2.1 x.2.1.1 x.2.1.2.1 x.2.1.2.2.1 x.2.1.2.2.2.1, fun (x : ((Nat × Nat × Nat × (Nat → ByteArray) × (Nat → ByteArray) × (Nat → Int) × (Nat → Bool) × Unit) × (Nat × Nat × Nat × (Nat → Int) × Unit) × (Nat × Nat × Nat × (Nat → Int) × (Nat → Int) × Unit) × Int × Unit) × (Nat × Nat × Nat × (Nat → Int) × Unit) × Unit) => (fun (ac nc mc : Nat) (tc : Nat → ByteArray) (vc : Nat → ByteArray) (gc : Nat → Int) (wc : Nat → Bool) (an nn mn : Nat) (tn : Nat → Int) (ag ng mg : Nat) (tg : Nat → Int) (vg : Nat → Int) (rc : Int) (ao no mo : Nat) (to : Nat → Int) => (N35 ac nc mc tc vc gc wc an nn mn tn ag ng mg tg vg rc ao no mo to) (S.runS nc (fun j => gc (j + ac)) (fun j => wc (j + ac)) ng (fun j => tg (j + ag)) (fun j => vg (j + ag)) rc (fun j => to (j + ao)) 0 no 0 (-1) rc (S.mkl nn (fun j => tn (j + an))) [])) x.1.1.1 x.1.1.2.1 x.1.1.2.2.1 x.1.1.2.2.2.1 x.1.1.2.2.2.2.1 x.1.1.2.2.2.2.2.1 x.1.1.2.2.2.2.2.2.1 x.1.2.1.1 x.1.2.1.2.1 x.1.2.1.2.2.1 x.1.2.1.2.2.2.1 x.1.2.2.1.1 x.1.2.2.1.2.1 x.1.2.2.1.2.2.1 x.1.2.2.1.2.2.2.1 x.1.2.2.1.2.2.2.2.1 x.1.2.2.2.1 x.2.1.1 x.2.1.2.1 x.2.1.2.2.1 x.2.1.2.2.2.1, fun _ _ => .dead⟩
theorem s35' (ac nc mc : Nat) (tc : Nat → ByteArray) (vc : Nat → ByteArray) (gc : Nat → Int) (wc : Nat → Bool) (an nn mn : Nat) (tn : Nat → Int) (ag ng mg : Nat) (tg : Nat → Int) (vg : Nat → Int) (rc : Int) (ao no mo : Nat) (to : Nat → Int) (hp : (ac + nc ≤ mc ∧ an + nn ≤ mn ∧ ag + ng ≤ mg ∧ ao + no ≤ mo ∧ no ≤ 20) ∧ S.ttE nc (fun j => tc (j + ac)) (fun j => vc (j + ac)) (fun j => gc (j + ac)) nn (fun j => tn (j + an)) ng (fun j => tg (j + ag)) (fun j => vg (j + ag)) rc = 0) : ∀ (k i : Nat) (x0 x2 x3 : Int) (x4 x5 : List Int), i + k = no → Holds (CsOk nc x4) → Holds (x5.length = i) → 0 ≤ x0 → x0 ≤ 1200 * i → 0 ≤ x3 → x3 ≤ rc → Comes (q35 ac nc mc tc vc gc wc an nn mn tn ag ng mg tg vg rc ao no mo to) (.h0 x0 (i : Int) x2 x3 x4 x5) (S.runS nc (fun j => gc (j + ac)) (fun j => wc (j + ac)) ng (fun j => tg (j + ag)) (fun j => vg (j + ag)) rc (fun j => to (j + ao)) i k x0 x2 x3 x4 x5) := by
  obtain ⟨⟨hp1, hp2, hp3, hp4, hp5⟩, hT⟩ := hp
  obtain ⟨⟨t1, t2, t3, t4, t5, t6⟩, tg1, tn1⟩ := tt_ok hT
  clear hT
  intro k
  induction k with
  | zero =>
    intro i x0 x2 x3 x4 x5 hi hC hL h1 h2 h3 h4
    have hl := hC.get.1
    simp only [S.runS]
    apply Comes.of
    rw [q35]
    refine goes_no (decide_eq_false (by omega)) ?_
    refine goes_ok (decide_eq_true (by omega)) ?_
    cases S.maxN (fun j => S.at' x4 j) (x4.length - 1) == 0 <;> rfl
  | succ k ih =>
    intro i x0 x2 x3 x4 x5 hi hC hL h1 h2 h3 h4
    have hC' := hC.get
    have hl := hC'.1
    have hL' := hL.get
    simp only [S.runS]
    generalize hc : to (i + ao) = c at *
    by_cases hr : 0 ≤ c ∧ c ≤ (nc : Int) - 1
    · have g1 := tg1 c.toNat (by omega)
      have d1 := hC'.2 c.toNat (by omega)
      have hpre : decide ((0 + x4.length ≤ x4.length ∧ x4.length ≤ 1000 ∧ ac + nc ≤ mc ∧ ag + ng ≤ mg ∧ ng ≤ 1000 ∧ x4.length = nc) ∧ (0 ≤ c ∧ c < (x4.length : Int) ∧ 0 ≤ rc ∧ rc ≤ 1000 ∧ 0 ≤ x3 ∧ x3 ≤ 1000) ∧ 0 ≤ S.at' x4 c.toNat ∧ S.at' x4 c.toNat ≤ 1000 ∧ 1 ≤ gc (c.toNat + ac) ∧ gc (c.toNat + ac) ≤ 200) = true := decide_eq_true ⟨⟨by omega, by omega, by omega, by omega, by omega, hl⟩, ⟨by omega, by omega, by omega, by omega, by omega, by omega⟩, by omega, by omega, g1.1, g1.2⟩
      by_cases hs : S.at' x4 c.toNat ≠ 0 ∧ S.forb ng (fun j => tg (j + ag)) (fun j => vg (j + ag)) x2 c = false
      · rw [if_pos ⟨hr.1, hr.2, hs.1, hs.2⟩]
        have hS : S.stpS x4.length (fun j => S.at' x4 j) x3 rc (S.any (fun j => decide (tg (j + ag) = x2) && decide (vg (j + ag) = c)) ng) (wc (c.toNat + ac)) (gc (c.toNat + ac)) c = (c, if wc (c.toNat + ac) = true then min rc (gc (c.toNat + ac)) else min rc (x3 + gc (c.toNat + ac)), if wc (c.toNat + ac) = true then gc (c.toNat + ac) + rc - x3 else gc (c.toNat + ac), true, S.mkl x4.length fun j => bif Nat.beq j c.toNat then S.at' x4 c.toNat - 1 else S.at' x4 j) := by
          unfold S.stpS
          exact if_neg (by rintro (h | h); exact hs.1 h; exact Bool.noConfusion (hs.2.symm.trans h))
        have ht : 0 ≤ (if wc (c.toNat + ac) = true then gc (c.toNat + ac) + rc - x3 else gc (c.toNat + ac)) ∧ (if wc (c.toNat + ac) = true then gc (c.toNat + ac) + rc - x3 else gc (c.toNat + ac)) ≤ 1200 := by split <;> omega
        have hu : 0 ≤ (if wc (c.toNat + ac) = true then min rc (gc (c.toNat + ac)) else min rc (x3 + gc (c.toNat + ac))) ∧ (if wc (c.toNat + ac) = true then min rc (gc (c.toNat + ac)) else min rc (x3 + gc (c.toNat + ac))) ≤ rc := by split <;> omega
        have hD := CsOk.dec hC' (c := c.toNat) (by omega) hs.1
        generalize (if wc (c.toNat + ac) = true then gc (c.toNat + ac) + rc - x3 else gc (c.toNat + ac)) = tk at *
        generalize (if wc (c.toNat + ac) = true then min rc (gc (c.toNat + ac)) else min rc (x3 + gc (c.toNat + ac))) = sn at *
        generalize (S.mkl x4.length fun j => bif Nat.beq j c.toNat then S.at' x4 c.toNat - 1 else S.at' x4 j) = cs at *
        have ih := ih (i + 1) (x0 + tk) c sn cs (S.snoc x5 (x0 + tk - gc (c.toNat + ac))) (by omega) ⟨hD⟩ ⟨by rw [snoc_len]; omega⟩ (by omega) (by omega) hu.1 hu.2
        apply Comes.of
        rw [q35]
        simp only [Int.toNat_natCast, hc, hS]
        repeat' first
          | ((with_reducible refine goes_ok ?_ ?_); focus (first | with_reducible exact hpre | with_reducible rfl | (rw [lim64]; apply decide_eq_true; omega) | (apply decide_eq_true; omega)))
        exact ih
      · rw [if_neg (fun h => hs ⟨h.2.2.1, h.2.2.2⟩)]
        have hS : S.stpS x4.length (fun j => S.at' x4 j) x3 rc (S.any (fun j => decide (tg (j + ag) = x2) && decide (vg (j + ag) = c)) ng) (wc (c.toNat + ac)) (gc (c.toNat + ac)) c = (0, 0, 0, false, []) := by
          unfold S.stpS
          refine if_pos ?_
          by_cases h0 : S.at' x4 c.toNat = 0
          · exact Or.inl h0
          · cases hf : S.forb ng (fun j => tg (j + ag)) (fun j => vg (j + ag)) x2 c
            · exact absurd ⟨h0, hf⟩ hs
            · exact Or.inr hf
        clear ih
        apply Comes.of
        rw [q35]
        simp only [Int.toNat_natCast, hc, hS]
        repeat' first
          | ((with_reducible refine goes_ok ?_ ?_); focus (first | with_reducible exact hpre | with_reducible rfl | (rw [lim64]; apply decide_eq_true; omega) | (apply decide_eq_true; omega)))
        exact goes_no rfl (goes_inr.mpr rfl)
    · rw [if_neg (fun h => hr ⟨h.1, h.2.1⟩)]
      clear ih
      apply Comes.of
      rw [q35]
      simp only [Int.toNat_natCast, hc]
      repeat' first
        | with_reducible refine goes_if (fun h => ?_) (fun h => ?_) <;> (try simp only [lim64, imp_false, decide_eq_true_eq, decide_eq_false_iff_not, Int.toNat_natCast, toNat_pred, toNat_succ, Option.getD_some, Option.getD_none, Bool.not_eq_true', Bool.not_eq_false', Bool.and_eq_true, Bool.or_eq_true, Bool.and_eq_false_iff, Bool.or_eq_false_iff, bne_iff_ne, beq_iff_eq, bne_eq_false_iff_eq, beq_eq_false_iff_ne, ne_eq, not_and, Int.not_le, Int.not_lt, ge_iff_le, gt_iff_lt, Nat.not_lt, Nat.not_le, Bool.not_eq_true, Bool.not_eq_false, Bool.true_eq_false, Bool.false_eq_true, not_false_eq_true, not_true_eq_false] at h)
        | exact goes_none.mpr (by omega)
      all_goals first | (exfalso; omega) | exact goes_inr.mpr rfl
theorem s35 (ac nc mc : Nat) (tc : Nat → ByteArray) (vc : Nat → ByteArray) (gc : Nat → Int) (wc : Nat → Bool) (an nn mn : Nat) (tn : Nat → Int) (ag ng mg : Nat) (tg : Nat → Int) (vg : Nat → Int) (rc : Int) (ao no mo : Nat) (to : Nat → Int) (hp : (ac + nc ≤ mc ∧ an + nn ≤ mn ∧ ag + ng ≤ mg ∧ ao + no ≤ mo ∧ no ≤ 20) ∧ S.ttE nc (fun j => tc (j + ac)) (fun j => vc (j + ac)) (fun j => gc (j + ac)) nn (fun j => tn (j + an)) ng (fun j => tg (j + ag)) (fun j => vg (j + ag)) rc = 0) : Goes ((q35 ac nc mc tc vc gc wc an nn mn tn ag ng mg tg vg rc ao no mo to)) ((p35 ac nc mc tc vc gc wc an nn mn tn ag ng mg tg vg rc ao no mo to)) (S.runS nc (fun j => gc (j + ac)) (fun j => wc (j + ac)) ng (fun j => tg (j + ag)) (fun j => vg (j + ag)) rc (fun j => to (j + ao)) 0 no 0 (-1) rc (S.mkl nn (fun j => tn (j + an))) []) := by
  have hT := tt_ok hp.2
  unfold p35
  refine goes_ok (decide_eq_true (by omega)) ?_
  exact s35' ac nc mc tc vc gc wc an nn mn tn ag ng mg tg vg rc ao no mo to hp no 0 0 (-1) rc (S.mkl nn (fun j => tn (j + an))) [] (Nat.zero_add _) ⟨⟨by rw [mkl_len]; omega, fun j hj => by rw [at_mkl (by omega)]; exact hT.2.2 j hj⟩⟩ ⟨rfl⟩ (Int.le_refl _) (by omega) hT.1.2.2.2.2.1 (Int.le_refl _)

theorem k35_ok : k35.ok Try.prog := by
  intro x hx
  obtain ⟨⟨⟨ac, nc, mc, tc, vc, gc, wc, _⟩, ⟨an, nn, mn, tn, _⟩, ⟨ag, ng, mg, tg, vg, _⟩, rc, _⟩, ⟨ao, no, mo, to, _⟩, _⟩ := x
  obtain ⟨h1, h2⟩ := a35 ac nc mc tc vc gc wc an nn mn tn ag ng mg tg vg rc ao no mo to (s35 ac nc mc tc vc gc wc an nn mn tn ag ng mg tg vg rc ao no mo to (of_dec hx rfl))
  exact ⟨⟨400, (by decide : 4 + 1 + 1 ≤ 400), h1⟩, h2⟩
noncomputable def xK2 (test : Bool → Prop → Prop → Prop) : Ext := consX test [k14, k35]
theorem xK2_ok : ExtOk Try.prog (xK2 cond) := consX_ok ⟨k14_ok, k35_ok, trivial⟩

end Go.Ev
