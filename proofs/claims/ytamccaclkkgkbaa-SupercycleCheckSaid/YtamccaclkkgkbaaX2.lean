/-
  When the cycles of an order start.
-/
import Derived.Test.YtamccaclkkgkbaaX1
namespace Go.Ev
open Go.Proofs
set_option linter.unusedVariables false
set_option linter.unusedSimpArgs false
set_option maxRecDepth 100000

namespace S
/-- What the reference's Starts does from the i-th cycle of an order on. -/
def stS (g : Nat → Int) (w : Nat → Bool) (rc : Int) (o : Nat → Int) : Nat → Nat → Int → Int → List Int → Int × List Int
  | _, 0, x, _, l => (x, l)
  | i, k + 1, x, y, l => if w (o i).toNat = true then stS g w rc o (i + 1) k ((if 0 ≤ y then max x (y + rc) else x) + g (o i).toNat) (if 0 ≤ y then max x (y + rc) else x) (snoc l (if 0 ≤ y then max x (y + rc) else x)) else stS g w rc o (i + 1) k (x + g (o i).toNat) y (snoc l x)
end S
/-- A feasible order is as long for both. -/
theorem st_run {nc : Nat} {g : Nat → Int} {w : Nat → Bool} {ng : Nat} {tg vg : Nat → Int} {rc : Int} {o : Nat → Int} (hg : ∀ j, j < nc → 1 ≤ g j ∧ g j ≤ 200) (hrc : 0 ≤ rc) : ∀ (k i : Nat) (x la si y : Int) (cs l l' : List Int), (S.runS nc g w ng tg vg rc o i k x la si cs l).2.1 = true → 0 ≤ x → y ≤ x → ((y < 0 ∧ si = rc) ∨ (0 ≤ y ∧ si = min rc (x - y))) → (S.stS g w rc o i k x y l').1 = (S.runS nc g w ng tg vg rc o i k x la si cs l).1
  | 0, i, x, la, si, y, cs, l, l', h, h1, h2, h3 => rfl
  | k + 1, i, x, la, si, y, cs, l, l', h, h1, h2, h3 => by
    simp only [S.runS, S.stS] at h ⊢
    split at h
    · rename_i hc
      rw [if_pos hc]
      have hgc := hg (o i).toNat (by omega)
      generalize g (o i).toNat = z at *
      cases hw : w (o i).toNat
      · simp only [hw, Bool.false_eq_true, if_false] at h ⊢
        exact st_run hg hrc k (i + 1) _ _ _ _ _ _ _ h (by omega) (by omega) (by omega)
      · simp only [hw, if_true] at h ⊢
        have e : (if 0 ≤ y then max x (y + rc) else x) + z = x + (z + rc - si) := by split <;> omega
        rw [e]
        refine st_run hg hrc k (i + 1) _ _ _ _ _ _ _ h (by omega) ?_ ?_
        · split <;> omega
        · right
          split <;> omega
    · cases h
theorem runIn {nc : Nat} {g : Nat → Int} {w : Nat → Bool} {ng : Nat} {tg vg : Nat → Int} {rc : Int} {o : Nat → Int} : ∀ (k i : Nat) (x la si : Int) (cs l : List Int), (S.runS nc g w ng tg vg rc o i k x la si cs l).2.1 = true → ∀ j, i ≤ j → j < i + k → 0 ≤ o j ∧ o j < nc
  | 0, i, x, la, si, cs, l, h, j, h1, h2 => by omega
  | k + 1, i, x, la, si, cs, l, h, j, h1, h2 => by
    simp only [S.runS] at h
    split at h
    · rename_i hc
      rcases Nat.lt_or_ge i j with h3 | h3
      · exact runIn k (i + 1) _ _ _ _ _ h j (by omega) (by omega)
      · obtain rfl : j = i := by omega
        omega
    · cases h
inductive St37 where
  | h0 (x0 : Int) (x1 : Int) (x2 : Int) (x3 : List Int)
abbrev Rt37 := Int × List Int
noncomputable def V37 (ac nc mc : Nat) (tc : Nat → ByteArray) (vc : Nat → ByteArray) (gc : Nat → Int) (wc : Nat → Bool) (an nn mn : Nat) (tn : Nat → Int) (ag ng mg : Nat) (tg : Nat → Int) (vg : Nat → Int) (rc : Int) (ao no mo : Nat) (to : Nat → Int) (r : Rt37) : PV := PV.tup [PV.own (5) (1) (List.length r.2), PV.int IntKind.i64 r.1]
noncomputable def N37 (ac nc mc : Nat) (tc : Nat → ByteArray) (vc : Nat → ByteArray) (gc : Nat → Int) (wc : Nat → Bool) (an nn mn : Nat) (tn : Nat → Int) (ag ng mg : Nat) (tg : Nat → Int) (vg : Nat → Int) (rc : Int) (ao no mo : Nat) (to : Nat → Int) (r : Rt37) : List Blk := [Blk.cols (List.length r.2) [Col.int IntKind.i64 fun (j : Nat) => S.at' r.2 j]]
noncomputable def I37 (ac nc mc : Nat) (tc : Nat → ByteArray) (vc : Nat → ByteArray) (gc : Nat → Int) (wc : Nat → Bool) (an nn mn : Nat) (tn : Nat → Int) (ag ng mg : Nat) (tg : Nat → Int) (vg : Nat → Int) (rc : Int) (ao no mo : Nat) (to : Nat → Int) : St37 → Hd
  | .h0 x0 x1 x2 x3 => ⟨hd Try.f37 0, [PV.loose (PA.mk (3) (1) ao (0)) no,
 PV.ptr (PA.mk (4) (0) (0) (0)),
 PV.own (5) (1) (List.length x3), PV.int IntKind.i64 x0, PV.int IntKind.i64 x1,
 PV.int IntKind.i64 x2], [[(4, (true, Blk.cells
 [PV.loose (PA.mk (0) (4) ac (0)) nc,
 PV.loose (PA.mk (1) (1) an (0)) nn,
 PV.loose (PA.mk (2) (2) ag (0)) ng, PV.int IntKind.i64 rc])), (5, (true, Blk.cols (List.length x3) [Col.int IntKind.i64 fun (j : Nat) => S.at' x3 j]))], [(0, (false, .cols mc [.str tc, .str vc, .int .i64 gc, .bool wc])), (1, (false, .cols mn [.int .i64 tn])), (2, (false, .cols mg [.int .i64 tg, .int .i64 vg])), (3, (false, .cols mo [.int .i64 to]))]], 6⟩
noncomputable def q37 (ac nc mc : Nat) (tc : Nat → ByteArray) (vc : Nat → ByteArray) (gc : Nat → Int) (wc : Nat → Bool) (an nn mn : Nat) (tn : Nat → Int) (ag ng mg : Nat) (tg : Nat → Int) (vg : Nat → Int) (rc : Int) (ao no mo : Nat) (to : Nat → Int) : St37 → Option (St37 ⊕ Rt37)
  | .h0 x0 x1 x2 x3 => bif (decide (x2 < (↑no : Int)))
 then (bif (decide ((0 : Int) ≤ x2 ∧ x2 < (↑no : Int)))
 then (bif (decide (Int.toNat x2 + ao < mo))
 then (bif (decide ((0 : Int) ≤ to (Int.toNat x2 + ao) ∧ to (Int.toNat x2 + ao) < (↑nc : Int)))
 then (bif (decide (Int.toNat (to (Int.toNat x2 + ao)) + ac < mc))
 then (bif (wc (Int.toNat (to (Int.toNat x2 + ao)) + ac))
 then (bif (decide (x1 ≥ (0 : Int)))
 then (bif (lim IntKind.i64 (x1 + rc))
 then (bif (decide (List.length x3 + 1 ≤ 1000000))
 then (bif (decide (List.length x3 ≤ List.length x3))
 then (bif (lim IntKind.i64 (Max.max x0 (x1 + rc) + gc (Int.toNat (to (Int.toNat x2 + ao)) + ac)))
 then (bif (lim IntKind.i64 (x2 + (1 : Int)))
 then (some (.inl (.h0 (Max.max x0 (x1 + rc) + gc (Int.toNat (to (Int.toNat x2 + ao)) + ac)) (Max.max x0 (x1 + rc)) (x2 + (1 : Int)) (S.snoc x3 (Max.max x0 (x1 + rc))))))
 else (none))
 else (none))
 else (none))
 else (none))
 else (none))
 else (bif (decide (List.length x3 + 1 ≤ 1000000))
 then (bif (decide (List.length x3 ≤ List.length x3))
 then (bif (lim IntKind.i64 (x0 + gc (Int.toNat (to (Int.toNat x2 + ao)) + ac)))
 then (bif (lim IntKind.i64 (x2 + (1 : Int)))
 then (some (.inl (.h0 (x0 + gc (Int.toNat (to (Int.toNat x2 + ao)) + ac)) (x0) (x2 + (1 : Int)) (S.snoc x3 x0))))
 else (none))
 else (none))
 else (none))
 else (none)))
 else (bif (decide (List.length x3 + 1 ≤ 1000000))
 then (bif (decide (List.length x3 ≤ List.length x3))
 then (bif (lim IntKind.i64 (x0 + gc (Int.toNat (to (Int.toNat x2 + ao)) + ac)))
 then (bif (lim IntKind.i64 (x2 + (1 : Int)))
 then (some (.inl (.h0 (x0 + gc (Int.toNat (to (Int.toNat x2 + ao)) + ac)) (x1) (x2 + (1 : Int)) (S.snoc x3 x0))))
 else (none))
 else (none))
 else (none))
 else (none)))
 else (none))
 else (none))
 else (none))
 else (none))
 else (some (.inr (x0, x3)))
noncomputable def p37 (ac nc mc : Nat) (tc : Nat → ByteArray) (vc : Nat → ByteArray) (gc : Nat → Int) (wc : Nat → Bool) (an nn mn : Nat) (tn : Nat → Int) (ag ng mg : Nat) (tg : Nat → Int) (vg : Nat → Int) (rc : Int) (ao no mo : Nat) (to : Nat → Int) : Option (St37 ⊕ Rt37) := some (.inl (.h0 ((0 : Int)) ((-1 : Int)) ((0 : Int)) ([])))
noncomputable def Te37 (test : Bool → Prop → Prop → Prop) (Kst : KS) (Kret : KR) (ac nc mc : Nat) (tc : Nat → ByteArray) (vc : Nat → ByteArray) (gc : Nat → Int) (wc : Nat → Bool) (an nn mn : Nat) (tn : Nat → Int) (ag ng mg : Nat) (tg : Nat → Int) (vg : Nat → Int) (rc : Int) (ao no mo : Nat) (to : Nat → Int) : Prop :=
  Kst (hd Try.f37 0) ([PV.loose (PA.mk (3) (1) ao (0)) no,
 PV.ptr (PA.mk (4) (0) (0) (0)), PV.nils,
 PV.int IntKind.i64 (0 : Int), PV.int IntKind.i64 (-1 : Int), PV.int IntKind.i64 (0 : Int)]) ([[(3, false, Blk.cols mo [Col.int IntKind.i64 to]),
 (2, false, Blk.cols mg [Col.int IntKind.i64 tg, Col.int IntKind.i64 vg]),
 (1, false, Blk.cols mn [Col.int IntKind.i64 tn]),
 (0, false,
 Blk.cols mc [Col.str tc, Col.str vc, Col.int IntKind.i64 gc, Col.bool wc]),
 (4, true,
 Blk.cells
 [PV.loose (PA.mk (0) (4) ac (0)) nc,
 PV.loose (PA.mk (1) (1) an (0)) nn,
 PV.loose (PA.mk (2) (2) ag (0)) ng, PV.int IntKind.i64 rc])]]) (5)
set_option maxRecDepth 100000 in
theorem te37 (test : Bool → Prop → Prop → Prop) (Kst : KS) (Kret : KR) (ac nc mc : Nat) (tc : Nat → ByteArray) (vc : Nat → ByteArray) (gc : Nat → Int) (wc : Nat → Bool) (an nn mn : Nat) (tn : Nat → Int) (ag ng mg : Nat) (tg : Nat → Int) (vg : Nat → Int) (rc : Int) (ao no mo : Nat) (to : Nat → Int) : run test Try.env true noX true 400 ⟨37, [.cd (mkFn Try.f37).body], argT 0 [.agg [.loose ⟨0, 4, ac, 0⟩ nc, .loose ⟨1, 1, an, 0⟩ nn, .loose ⟨2, 2, ag, 0⟩ ng, .int .i64 rc], .loose ⟨3, 1, ao, 0⟩ no], [[], [(0, (false, .cols mc [.str tc, .str vc, .int .i64 gc, .bool wc])), (1, (false, .cols mn [.int .i64 tn])), (2, (false, .cols mg [.int .i64 tg, .int .i64 vg])), (3, (false, .cols mo [.int .i64 to]))]], 4⟩ (proj 4 [1, 2, 6, 7, 8, 9] Kst Kret) =
  Te37 test Kst Kret ac nc mc tc vc gc wc an nn mn tn ag ng mg tg vg rc ao no mo to := by kernel_rfl
noncomputable def T37_0 (test : Bool → Prop → Prop → Prop) (Kst : KS) (Kret : KR) (ac nc mc : Nat) (tc : Nat → ByteArray) (vc : Nat → ByteArray) (gc : Nat → Int) (wc : Nat → Bool) (an nn mn : Nat) (tn : Nat → Int) (ag ng mg : Nat) (tg : Nat → Int) (vg : Nat → Int) (rc : Int) (ao no mo : Nat) (to : Nat → Int) (x0 : Int) (x1 : Int) (x2 : Int) (x3 : List Int) : Prop :=
  test (decide (x2 < (↑no : Int)))
 (test (decide ((0 : Int) ≤ x2 ∧ x2 < (↑no : Int)))
 (test (decide (Int.toNat x2 + ao < mo))
 (test (decide ((0 : Int) ≤ to (Int.toNat x2 + ao) ∧ to (Int.toNat x2 + ao) < (↑nc : Int)))
 (test (decide (Int.toNat (to (Int.toNat x2 + ao)) + ac < mc))
 (test (decide (Int.toNat (to (Int.toNat x2 + ao)) + ac < mc))
 (test (decide (Int.toNat (to (Int.toNat x2 + ao)) + ac < mc))
 (test (decide (Int.toNat (to (Int.toNat x2 + ao)) + ac < mc))
 (test (wc (Int.toNat (to (Int.toNat x2 + ao)) + ac))
 (test (decide (x1 ≥ (0 : Int)))
 (test (lim IntKind.i64 (x1 + rc))
 (test (decide (List.length x3 + 1 ≤ 1000000))
 (test (decide (List.length x3 ≤ List.length x3))
 (test (true)
 (test (lim IntKind.i64 (Max.max x0 (x1 + rc) + gc (Int.toNat (to (Int.toNat x2 + ao)) + ac)))
 (test (lim IntKind.i64 (x2 + (1 : Int)))
 (Kst (hd Try.f37 0) ([PV.loose (PA.mk (3) (1) ao (0)) no,
 PV.ptr (PA.mk (4) (0) (0) (0)),
 PV.own (8) (1) (List.length x3 + 1),
 PV.int IntKind.i64 (Max.max x0 (x1 + rc) + gc (Int.toNat (to (Int.toNat x2 + ao)) + ac)),
 PV.int IntKind.i64 (Max.max x0 (x1 + rc)), PV.int IntKind.i64 (x2 + (1 : Int))]) ([[(3, false, Blk.cols mo [Col.int IntKind.i64 to]),
 (2, false, Blk.cols mg [Col.int IntKind.i64 tg, Col.int IntKind.i64 vg]),
 (1, false, Blk.cols mn [Col.int IntKind.i64 tn]),
 (0, false,
 Blk.cols mc [Col.str tc, Col.str vc, Col.int IntKind.i64 gc, Col.bool wc]),
 (8, true,
 Blk.cols (List.length x3 + 1)
 [Col.int IntKind.i64 fun (j : Nat) =>
 bif Nat.blt j (List.length x3) then S.at' x3 j else Max.max x0 (x1 + rc)]),
 (4, true,
 Blk.cells
 [PV.loose (PA.mk (0) (4) ac (0)) nc,
 PV.loose (PA.mk (1) (1) an (0)) nn,
 PV.loose (PA.mk (2) (2) ag (0)) ng, PV.int IntKind.i64 rc])]]) (9))
 (False))
 (False))
 (False))
 (False))
 (False))
 (False))
 (test (decide (List.length x3 + 1 ≤ 1000000))
 (test (decide (List.length x3 ≤ List.length x3))
 (test (true)
 (test (lim IntKind.i64 (x0 + gc (Int.toNat (to (Int.toNat x2 + ao)) + ac)))
 (test (lim IntKind.i64 (x2 + (1 : Int)))
 (Kst (hd Try.f37 0) ([PV.loose (PA.mk (3) (1) ao (0)) no,
 PV.ptr (PA.mk (4) (0) (0) (0)),
 PV.own (8) (1) (List.length x3 + 1),
 PV.int IntKind.i64 (x0 + gc (Int.toNat (to (Int.toNat x2 + ao)) + ac)), PV.int IntKind.i64 x0,
 PV.int IntKind.i64 (x2 + (1 : Int))]) ([[(3, false, Blk.cols mo [Col.int IntKind.i64 to]),
 (2, false, Blk.cols mg [Col.int IntKind.i64 tg, Col.int IntKind.i64 vg]),
 (1, false, Blk.cols mn [Col.int IntKind.i64 tn]),
 (0, false,
 Blk.cols mc [Col.str tc, Col.str vc, Col.int IntKind.i64 gc, Col.bool wc]),
 (8, true,
 Blk.cols (List.length x3 + 1)
 [Col.int IntKind.i64 fun (j : Nat) => bif Nat.blt j (List.length x3) then S.at' x3 j else x0]),
 (4, true,
 Blk.cells
 [PV.loose (PA.mk (0) (4) ac (0)) nc,
 PV.loose (PA.mk (1) (1) an (0)) nn,
 PV.loose (PA.mk (2) (2) ag (0)) ng, PV.int IntKind.i64 rc])]]) (9))
 (False))
 (False))
 (False))
 (False))
 (False)))
 (test (decide (List.length x3 + 1 ≤ 1000000))
 (test (decide (List.length x3 ≤ List.length x3))
 (test (true)
 (test (lim IntKind.i64 (x0 + gc (Int.toNat (to (Int.toNat x2 + ao)) + ac)))
 (test (lim IntKind.i64 (x2 + (1 : Int)))
 (Kst (hd Try.f37 0) ([PV.loose (PA.mk (3) (1) ao (0)) no,
 PV.ptr (PA.mk (4) (0) (0) (0)),
 PV.own (8) (1) (List.length x3 + 1),
 PV.int IntKind.i64 (x0 + gc (Int.toNat (to (Int.toNat x2 + ao)) + ac)), PV.int IntKind.i64 x1,
 PV.int IntKind.i64 (x2 + (1 : Int))]) ([[(3, false, Blk.cols mo [Col.int IntKind.i64 to]),
 (2, false, Blk.cols mg [Col.int IntKind.i64 tg, Col.int IntKind.i64 vg]),
 (1, false, Blk.cols mn [Col.int IntKind.i64 tn]),
 (0, false,
 Blk.cols mc [Col.str tc, Col.str vc, Col.int IntKind.i64 gc, Col.bool wc]),
 (8, true,
 Blk.cols (List.length x3 + 1)
 [Col.int IntKind.i64 fun (j : Nat) => bif Nat.blt j (List.length x3) then S.at' x3 j else x0]),
 (4, true,
 Blk.cells
 [PV.loose (PA.mk (0) (4) ac (0)) nc,
 PV.loose (PA.mk (1) (1) an (0)) nn,
 PV.loose (PA.mk (2) (2) ag (0)) ng, PV.int IntKind.i64 rc])]]) (9))
 (False))
 (False))
 (False))
 (False))
 (False)))
 (False))
 (False))
 (False))
 (False))
 (False))
 (False))
 (False))
 (Kret (PV.tup [PV.own (5) (1) (List.length x3), PV.int IntKind.i64 x0]) ([[(3, false, Blk.cols mo [Col.int IntKind.i64 to]),
 (2, false, Blk.cols mg [Col.int IntKind.i64 tg, Col.int IntKind.i64 vg]),
 (1, false, Blk.cols mn [Col.int IntKind.i64 tn]),
 (0, false,
 Blk.cols mc [Col.str tc, Col.str vc, Col.int IntKind.i64 gc, Col.bool wc]),
 (5, true,
 Blk.cols (List.length x3) [Col.int IntKind.i64 fun (j : Nat) => S.at' x3 j])]]) (6))
set_option maxRecDepth 100000 in
theorem t37_0 (test : Bool → Prop → Prop → Prop) (Kst : KS) (Kret : KR) (ac nc mc : Nat) (tc : Nat → ByteArray) (vc : Nat → ByteArray) (gc : Nat → Int) (wc : Nat → Bool) (an nn mn : Nat) (tn : Nat → Int) (ag ng mg : Nat) (tg : Nat → Int) (vg : Nat → Int) (rc : Int) (ao no mo : Nat) (to : Nat → Int) (x0 : Int) (x1 : Int) (x2 : Int) (x3 : List Int) : run test Try.env true noX true 400 ⟨37, hd Try.f37 0, zipT [1, 2, 6, 7, 8, 9] [PV.loose (PA.mk (3) (1) ao (0)) no,
 PV.ptr (PA.mk (4) (0) (0) (0)),
 PV.own (5) (1) (List.length x3), PV.int IntKind.i64 x0, PV.int IntKind.i64 x1,
 PV.int IntKind.i64 x2], [[(4, (true, Blk.cells
 [PV.loose (PA.mk (0) (4) ac (0)) nc,
 PV.loose (PA.mk (1) (1) an (0)) nn,
 PV.loose (PA.mk (2) (2) ag (0)) ng, PV.int IntKind.i64 rc])), (5, (true, Blk.cols (List.length x3) [Col.int IntKind.i64 fun (j : Nat) => S.at' x3 j]))], [(0, (false, .cols mc [.str tc, .str vc, .int .i64 gc, .bool wc])), (1, (false, .cols mn [.int .i64 tn])), (2, (false, .cols mg [.int .i64 tg, .int .i64 vg])), (3, (false, .cols mo [.int .i64 to]))]], 6⟩ (proj 4 [1, 2, 6, 7, 8, 9] Kst Kret) =
  T37_0 test Kst Kret ac nc mc tc vc gc wc an nn mn tn ag ng mg tg vg rc ao no mo to x0 x1 x2 x3 := by kernel_rfl
attribute [local irreducible] Int.subNatNat in
set_option maxRecDepth 100000 in
theorem be37 (ac nc mc : Nat) (tc : Nat → ByteArray) (vc : Nat → ByteArray) (gc : Nat → Int) (wc : Nat → Bool) (an nn mn : Nat) (tn : Nat → Int) (ag ng mg : Nat) (tg : Nat → Int) (vg : Nat → Int) (rc : Int) (ao no mo : Nat) (to : Nat → Int) (Kst : KS) (Kret : KR) (x : St37 ⊕ Rt37) (hS : HS 4 400 ((I37 ac nc mc tc vc gc wc an nn mn tn ag ng mg tg vg rc ao no mo to)) Kst x) (hR : HR 4 400 ((V37 ac nc mc tc vc gc wc an nn mn tn ag ng mg tg vg rc ao no mo to)) (fun r => [newL (4 + 1) ((N37 ac nc mc tc vc gc wc an nn mn tn ag ng mg tg vg rc ao no mo to) r) ++ [(0, (false, .cols mc [.str tc, .str vc, .int .i64 gc, .bool wc])), (1, (false, .cols mn [.int .i64 tn])), (2, (false, .cols mg [.int .i64 tg, .int .i64 vg])), (3, (false, .cols mo [.int .i64 to]))]]) Kret x) (h : (some (.inl (.h0 ((0 : Int)) ((-1 : Int)) ((0 : Int)) ([]))) : Option (St37 ⊕ Rt37)) = some x) : Te37 cond Kst Kret ac nc mc tc vc gc wc an nn mn tn ag ng mg tg vg rc ao no mo to := by
  unfold Te37
  exact stop_at hS _ h (fun n => bif Nat.beq n 4 then 4 else bif Nat.beq n 5 then 399 else n) rfl rfl rfl ⟨(rn_loose (use_lo rfl) rfl rfl rfl), ⟨(rn_ptr (use_own rfl) rfl rfl), ⟨(rn_own_nils rfl), ⟨(rn_int rfl), ⟨(rn_int rfl), ⟨(rn_int rfl), trivial⟩⟩⟩⟩⟩⟩ rfl (entl_b (use_own rfl) rfl (by simp) (rb_cells ⟨(rn_loose (use_lo rfl) rfl rfl rfl), (rn_loose (use_lo rfl) rfl rfl rfl), (rn_loose (use_lo rfl) rfl rfl rfl), (rn_int rfl), trivial⟩) (entl_fresh (use_own rfl) (fresh_ok rfl) (entl_bor (use_lo rfl) rfl rfl (entl_bor (use_lo rfl) rfl rfl (entl_bor (use_lo rfl) rfl rfl (entl_bor (use_lo rfl) rfl rfl entl_nil))))))
attribute [local irreducible] Int.subNatNat in
set_option maxRecDepth 100000 in
theorem b37_0 (ac nc mc : Nat) (tc : Nat → ByteArray) (vc : Nat → ByteArray) (gc : Nat → Int) (wc : Nat → Bool) (an nn mn : Nat) (tn : Nat → Int) (ag ng mg : Nat) (tg : Nat → Int) (vg : Nat → Int) (rc : Int) (ao no mo : Nat) (to : Nat → Int) (Kst : KS) (Kret : KR) (x : St37 ⊕ Rt37) (hS : HS 4 400 ((I37 ac nc mc tc vc gc wc an nn mn tn ag ng mg tg vg rc ao no mo to)) Kst x) (hR : HR 4 400 ((V37 ac nc mc tc vc gc wc an nn mn tn ag ng mg tg vg rc ao no mo to)) (fun r => [newL (4 + 1) ((N37 ac nc mc tc vc gc wc an nn mn tn ag ng mg tg vg rc ao no mo to) r) ++ [(0, (false, .cols mc [.str tc, .str vc, .int .i64 gc, .bool wc])), (1, (false, .cols mn [.int .i64 tn])), (2, (false, .cols mg [.int .i64 tg, .int .i64 vg])), (3, (false, .cols mo [.int .i64 to]))]]) Kret x) (x0 : Int) (x1 : Int) (x2 : Int) (x3 : List Int) (h : (bif (decide (x2 < (↑no : Int)))
 then (bif (decide ((0 : Int) ≤ x2 ∧ x2 < (↑no : Int)))
 then (bif (decide (Int.toNat x2 + ao < mo))
 then (bif (decide ((0 : Int) ≤ to (Int.toNat x2 + ao) ∧ to (Int.toNat x2 + ao) < (↑nc : Int)))
 then (bif (decide (Int.toNat (to (Int.toNat x2 + ao)) + ac < mc))
 then (bif (wc (Int.toNat (to (Int.toNat x2 + ao)) + ac))
 then (bif (decide (x1 ≥ (0 : Int)))
 then (bif (lim IntKind.i64 (x1 + rc))
 then (bif (decide (List.length x3 + 1 ≤ 1000000))
 then (bif (decide (List.length x3 ≤ List.length x3))
 then (bif (lim IntKind.i64 (Max.max x0 (x1 + rc) + gc (Int.toNat (to (Int.toNat x2 + ao)) + ac)))
 then (bif (lim IntKind.i64 (x2 + (1 : Int)))
 then (some (.inl (.h0 (Max.max x0 (x1 + rc) + gc (Int.toNat (to (Int.toNat x2 + ao)) + ac)) (Max.max x0 (x1 + rc)) (x2 + (1 : Int)) (S.snoc x3 (Max.max x0 (x1 + rc))))))
 else (none))
 else (none))
 else (none))
 else (none))
 else (none))
 else (bif (decide (List.length x3 + 1 ≤ 1000000))
 then (bif (decide (List.length x3 ≤ List.length x3))
 then (bif (lim IntKind.i64 (x0 + gc (Int.toNat (to (Int.toNat x2 + ao)) + ac)))
 then (bif (lim IntKind.i64 (x2 + (1 : Int)))
 then (some (.inl (.h0 (x0 + gc (Int.toNat (to (Int.toNat x2 + ao)) + ac)) (x0) (x2 + (1 : Int)) (S.snoc x3 x0))))
 else (none))
 else (none))
 else (none))
 else (none)))
 else (bif (decide (List.length x3 + 1 ≤ 1000000))
 then (bif (decide (List.length x3 ≤ List.length x3))
 then (bif (lim IntKind.i64 (x0 + gc (Int.toNat (to (Int.toNat x2 + ao)) + ac)))
 then (bif (lim IntKind.i64 (x2 + (1 : Int)))
 then (some (.inl (.h0 (x0 + gc (Int.toNat (to (Int.toNat x2 + ao)) + ac)) (x1) (x2 + (1 : Int)) (S.snoc x3 x0))))
 else (none))
 else (none))
 else (none))
 else (none)))
 else (none))
 else (none))
 else (none))
 else (none))
 else (some (.inr (x0, x3))) : Option (St37 ⊕ Rt37)) = some x) : T37_0 cond Kst Kret ac nc mc tc vc gc wc an nn mn tn ag ng mg tg vg rc ao no mo to x0 x1 x2 x3 := by
  unfold T37_0
  exact bif_split h
   (fun c0 h => bif_split h
   (fun c1 h => bif_split h
   (fun c2 h => bif_split h
   (fun c3 h => bif_split h
   (fun c4 h => cond_yes c4 (cond_yes c4 (cond_yes c4 (bif_split h
   (fun c5 h => bif_split h
   (fun c6 h => bif_split h
   (fun c7 h => bif_split h
   (fun c8 h => bif_split h
   (fun c9 h => cond_yes rfl (bif_split h
   (fun c10 h => bif_split h
   (fun c11 h => stop_at hS _ h (fun n => bif Nat.beq n 4 then 4 else bif Nat.beq n 5 then 8 else n) rfl rfl rfl ⟨(rn_loose (use_lo rfl) rfl rfl rfl), ⟨(rn_ptr (use_own rfl) rfl rfl), ⟨(rn_own (use_own rfl) rfl (snoc_len' rfl)), ⟨(rn_int rfl), ⟨(rn_int rfl), ⟨(rn_int rfl), trivial⟩⟩⟩⟩⟩⟩ rfl (entl_b (use_own rfl) rfl (by simp) (rb_cells ⟨(rn_loose (use_lo rfl) rfl rfl rfl), (rn_loose (use_lo rfl) rfl rfl rfl), (rn_loose (use_lo rfl) rfl rfl rfl), (rn_int rfl), trivial⟩) (entl_new (use_own rfl) rfl (Nat.le_of_eq (snoc_len' rfl)) (rcs_int (col_snoc' (fun (t : Int) => t) rfl (fun _ _ => rfl)) rcs_nil) (entl_bor (use_lo rfl) rfl rfl (entl_bor (use_lo rfl) rfl rfl (entl_bor (use_lo rfl) rfl rfl (entl_bor (use_lo rfl) rfl rfl entl_nil)))))))
   (fun c11 h => no_some h))
   (fun c10 h => no_some h)))
   (fun c9 h => no_some h))
   (fun c8 h => no_some h))
   (fun c7 h => no_some h))
   (fun c6 h => bif_split h
   (fun c7 h => bif_split h
   (fun c8 h => cond_yes rfl (bif_split h
   (fun c9 h => bif_split h
   (fun c10 h => stop_at hS _ h (fun n => bif Nat.beq n 4 then 4 else bif Nat.beq n 5 then 8 else n) rfl rfl rfl ⟨(rn_loose (use_lo rfl) rfl rfl rfl), ⟨(rn_ptr (use_own rfl) rfl rfl), ⟨(rn_own (use_own rfl) rfl (snoc_len' rfl)), ⟨(rn_int rfl), ⟨(rn_int rfl), ⟨(rn_int rfl), trivial⟩⟩⟩⟩⟩⟩ rfl (entl_b (use_own rfl) rfl (by simp) (rb_cells ⟨(rn_loose (use_lo rfl) rfl rfl rfl), (rn_loose (use_lo rfl) rfl rfl rfl), (rn_loose (use_lo rfl) rfl rfl rfl), (rn_int rfl), trivial⟩) (entl_new (use_own rfl) rfl (Nat.le_of_eq (snoc_len' rfl)) (rcs_int (col_snoc' (fun (t : Int) => t) rfl (fun _ _ => rfl)) rcs_nil) (entl_bor (use_lo rfl) rfl rfl (entl_bor (use_lo rfl) rfl rfl (entl_bor (use_lo rfl) rfl rfl (entl_bor (use_lo rfl) rfl rfl entl_nil)))))))
   (fun c10 h => no_some h))
   (fun c9 h => no_some h)))
   (fun c8 h => no_some h))
   (fun c7 h => no_some h)))
   (fun c5 h => bif_split h
   (fun c6 h => bif_split h
   (fun c7 h => cond_yes rfl (bif_split h
   (fun c8 h => bif_split h
   (fun c9 h => stop_at hS _ h (fun n => bif Nat.beq n 4 then 4 else bif Nat.beq n 5 then 8 else n) rfl rfl rfl ⟨(rn_loose (use_lo rfl) rfl rfl rfl), ⟨(rn_ptr (use_own rfl) rfl rfl), ⟨(rn_own (use_own rfl) rfl (snoc_len' rfl)), ⟨(rn_int rfl), ⟨(rn_int rfl), ⟨(rn_int rfl), trivial⟩⟩⟩⟩⟩⟩ rfl (entl_b (use_own rfl) rfl (by simp) (rb_cells ⟨(rn_loose (use_lo rfl) rfl rfl rfl), (rn_loose (use_lo rfl) rfl rfl rfl), (rn_loose (use_lo rfl) rfl rfl rfl), (rn_int rfl), trivial⟩) (entl_new (use_own rfl) rfl (Nat.le_of_eq (snoc_len' rfl)) (rcs_int (col_snoc' (fun (t : Int) => t) rfl (fun _ _ => rfl)) rcs_nil) (entl_bor (use_lo rfl) rfl rfl (entl_bor (use_lo rfl) rfl rfl (entl_bor (use_lo rfl) rfl rfl (entl_bor (use_lo rfl) rfl rfl entl_nil)))))))
   (fun c9 h => no_some h))
   (fun c8 h => no_some h)))
   (fun c7 h => no_some h))
   (fun c6 h => no_some h))))))
   (fun c4 h => no_some h))
   (fun c3 h => no_some h))
   (fun c2 h => no_some h))
   (fun c1 h => no_some h))
   (fun c0 h => ret_at hR _ h (fun n => bif Nat.beq n 5 then 5 else n) rfl rfl rfl (rn_tup ⟨(rn_own (use_own rfl) rfl rfl), (rn_int rfl), trivial⟩) rfl (entl_new (use_own rfl) rfl (Nat.le_of_eq rfl) (rcs_int (fun _ _ => rfl) rcs_nil) (entl_bor (use_lo rfl) rfl rfl (entl_bor (use_lo rfl) rfl rfl (entl_bor (use_lo rfl) rfl rfl (entl_bor (use_lo rfl) rfl rfl entl_nil))))))
theorem a37 (ac nc mc : Nat) (tc : Nat → ByteArray) (vc : Nat → ByteArray) (gc : Nat → Int) (wc : Nat → Bool) (an nn mn : Nat) (tn : Nat → Int) (ag ng mg : Nat) (tg : Nat → Int) (vg : Nat → Int) (rc : Int) (ao no mo : Nat) (to : Nat → Int) {r : Rt37} (h : Goes ((q37 ac nc mc tc vc gc wc an nn mn tn ag ng mg tg vg rc ao no mo to)) ((p37 ac nc mc tc vc gc wc an nn mn tn ag ng mg tg vg rc ao no mo to)) r) : CallR Try.prog 37 [.agg [.loose ⟨0, 4, ac, 0⟩ nc, .loose ⟨1, 1, an, 0⟩ nn, .loose ⟨2, 2, ag, 0⟩ ng, .int .i64 rc], .loose ⟨3, 1, ao, 0⟩ no] [[(0, (false, .cols mc [.str tc, .str vc, .int .i64 gc, .bool wc])), (1, (false, .cols mn [.int .i64 tn])), (2, (false, .cols mg [.int .i64 tg, .int .i64 vg])), (3, (false, .cols mo [.int .i64 to]))]] 4 ((V37 ac nc mc tc vc gc wc an nn mn tn ag ng mg tg vg rc ao no mo to) r) ((fun r => [newL (4 + 1) ((N37 ac nc mc tc vc gc wc an nn mn tn ag ng mg tg vg rc ao no mo to) r) ++ [(0, (false, .cols mc [.str tc, .str vc, .int .i64 gc, .bool wc])), (1, (false, .cols mn [.int .i64 tn])), (2, (false, .cols mg [.int .i64 tg, .int .i64 vg])), (3, (false, .cols mo [.int .i64 to]))]]) r) 400 ∧ ∃ F, Try.prog.funcs[37]? = some F ∧ F.body.isSome = true ∧ (F.name == "runtime.NumGoroutine") = false := by
  refine dec_calls (f := 37) (lo := 4) (hi := 400) (H := [[(0, (false, .cols mc [.str tc, .str vc, .int .i64 gc, .bool wc])), (1, (false, .cols mn [.int .i64 tn])), (2, (false, .cols mg [.int .i64 tg, .int .i64 vg])), (3, (false, .cols mo [.int .i64 to]))]]) (args := [.agg [.loose ⟨0, 4, ac, 0⟩ nc, .loose ⟨1, 1, an, 0⟩ nn, .loose ⟨2, 2, ag, 0⟩ ng, .int .i64 rc], .loose ⟨3, 1, ao, 0⟩ no]) Try.envOk Try.mixed noX_ok ((I37 ac nc mc tc vc gc wc an nn mn tn ag ng mg tg vg rc ao no mo to)) ((V37 ac nc mc tc vc gc wc an nn mn tn ag ng mg tg vg rc ao no mo to)) (fun r => [newL (4 + 1) ((N37 ac nc mc tc vc gc wc an nn mn tn ag ng mg tg vg rc ao no mo to) r) ++ [(0, (false, .cols mc [.str tc, .str vc, .int .i64 gc, .bool wc])), (1, (false, .cols mn [.int .i64 tn])), (2, (false, .cols mg [.int .i64 tg, .int .i64 vg])), (3, (false, .cols mo [.int .i64 to]))]]) (fn := mkFn Try.f37) (ts := [1, 2, 6, 7, 8, 9]) (n := 400) rfl (by decide) (by simp) (names_of rfl) ?_ ?_ ?_ h
  · intro s; cases s <;> exact ⟨hd_ok _ _, by simp [I37], names_of rfl, Nat.le_of_ble_eq_true rfl⟩
  · intro Kst Kret x hS hR h
    exact Holds.eq (te37 cond Kst Kret ac nc mc tc vc gc wc an nn mn tn ag ng mg tg vg rc ao no mo to) (be37 ac nc mc tc vc gc wc an nn mn tn ag ng mg tg vg rc ao no mo to Kst Kret x hS hR h)
  · intro Kst Kret x hS hR s h
    cases s with
    | h0 x0 x1 x2 x3 => exact Holds.eq (t37_0 cond Kst Kret ac nc mc tc vc gc wc an nn mn tn ag ng mg tg vg rc ao no mo to x0 x1 x2 x3) (b37_0 ac nc mc tc vc gc wc an nn mn tn ag ng mg tg vg rc ao no mo to Kst Kret x hS hR x0 x1 x2 x3 h)
noncomputable def k37 : Con := ⟨37, [.agg [.list [.str, .str, .int .i64, .bool], .list [.int .i64], .list [.int .i64, .int .i64], .plain (.int .i64)], .one (.list [.int .i64])], fun (x : ((Nat × Nat × Nat × (Nat → ByteArray) × (Nat → ByteArray) × (Nat → Int) × (Nat → Bool) × Unit) × (Nat × Nat × Nat × (Nat → Int) × Unit) × (Nat × Nat × Nat × (Nat → Int) × (Nat → Int) × Unit) × Int × Unit) × (Nat × Nat × Nat × (Nat → Int) × Unit) × Unit) => (fun (ac nc mc : Nat) (tc : Nat → ByteArray) (vc : Nat → ByteArray) (gc : Nat → Int) (wc : Nat → Bool) (an nn mn : Nat) (tn : Nat → Int) (ag ng mg : Nat) (tg : Nat → Int) (vg : Nat → Int) (rc : Int) (ao no mo : Nat) (to : Nat → Int) => decide ((ac + nc ≤ mc ∧ an + nn ≤ mn ∧ ag + ng ≤ mg ∧ ao + no ≤ mo ∧ no ≤ 20) ∧ S.ttE nc (fun j => tc (j + ac)) (fun j => vc (j + ac)) (fun j => gc (j + ac)) nn (fun j => tn (j + an)) ng (fun j => tg (j + ag)) (fun j => vg (j + ag)) rc = 0 ∧ (S.runS nc (fun j => gc (j + ac)) (fun j => wc (j + ac)) ng (fun j => tg (j + ag)) (fun j => vg (j + ag)) rc (fun j => to (j + ao)) 0 no 0 (-1) rc (S.mkl nn (fun j => tn (j + an))) []).2.1 = true)) x.1.1.1 x.1.1.2.1 x.1.1.2.2.1 x.1.1.2.2.2.1 x.1.1.2.2.2.2.1 x.1.1.2.2.2.2.2.1 x.1.1.2.2.2.2.2.2.1 x.1.2.1.1 x.1.2.1.2.1 x.1.2.1.2.2.1 x.1.2.1.2.2.2.1 x.1.2.2.1.1 x.1.2.2.1.2.1 x.1.2.2.1.2.2.1 x.1.2.2.1.2.2.2.1 x.1.2.2.1.2.2.2.2.1 x.1.2.2.2.1 x.2.1.1 x.2.1.2.1 x.2.1.2.2.1 x.2.1.2.2.2.1, fun (x : ((Nat × Nat × Nat × (Nat → ByteArray) × (Nat → ByteArray) × (Nat → Int) × (Nat → Bool) × Unit) × (Nat × Nat × Nat × (Nat → Int) × Unit) × (Nat × Nat × Nat × (Nat → Int) × (Nat → Int) × Unit) × Int × Unit) × (Nat × Nat × Nat × (Nat → Int) × Unit) × Unit) => (fun (ac nc mc : Nat) (tc : Nat → ByteArray) (vc : Nat → ByteArray) (gc : Nat → Int) (wc : Nat → Bool) (an nn mn : Nat) (tn : Nat → Int) (ag ng mg : Nat) (tg : Nat → Int) (vg : Nat → Int) (rc : Int) (ao no mo : Nat) (to : Nat → Int) => (V37 ac nc mc tc vc gc wc an nn mn tn ag ng mg tg vg rc ao no mo to) (S.stS (fun j => gc (j + ac)) (fun j => wc (j + ac)) rc (fun j => to (j + ao)) 0 no 0 (-1) [])) x.1.1.1 x.1.1.2.1 x.1.1.2.2.1 x.1.1.2.2.2.1 x.1.1.2.2.2.2.1 x.1.1.2.2.2.2.2.1 x.1.1.2.2.2.2.2.2.1 x.1.2.1.1 x.1.2.1.2.1 x.1.2.1.2.2.1 x.1.2.1.2.2.2.1 x.1.2.2.1.1 x.1.2.2.1.2.1 x.1.2.2.1.2.2.1 x.1.2.2.1.2.2.2.1 x.1.2.2.1.2.2.2.2.1 x.1.2.2.2.1 x.2.1.1 x.2.1.2.1 x.2.1.2.2.1 x.2.1.2.2.2.1, fun (x : ((Nat × Nat × Nat × (Nat → ByteArray) × (Nat → ByteArray) × (Nat → Int) × (Nat → Bool) × Unit) × (Nat × Nat × Nat × (Nat → Int) × Unit) × (Nat × Nat × Nat × (Nat → Int) × (Nat → Int) × Unit) × Int × Unit) × (Nat × Nat × Nat × (Nat → Int) × Unit) × Unit) => (fun (ac nc mc : Nat) (tc : Nat → ByteArray) (vc : Nat → ByteArray) (gc : Nat → Int) (wc : Nat → Bool) (an nn mn : Nat) (tn : Nat → Int) (ag ng mg : Nat) (tg : Nat → Int) (vg : Nat → Int) (rc : Int) (ao no mo : Nat) (to : Nat → Int) => (N37 ac nc mc tc vc gc wc an nn mn tn ag ng mg tg vg rc ao no mo to) (S.stS (fun j => gc (j + ac)) (fun j => wc (j + ac)) rc (fun j => to (j + ao)) 0 no 0 (-1) [])) x.1.1.1 x.1.1.2.1 x.1.1.2.2.1 x.1.1.2.2.2.1 x.1.1.2.2.2.2.1 x.1.1.2.2.2.2.2.1 x.1.1.2.2.2.2.2.2.1 x.1.2.1.1 x.1.2.1.2.1 x.1.2.1.2.2.1 x.1.2.1.2.2.2.1 x.1.2.2.1.1 x.1.2.2.1.2.1 x.1.2.2.1.2.2.1 x.1.2.2.1.2.2.2.1 x.1.2.2.1.2.2.2.2.1 x.1.2.2.2.1 x.2.1.1 x.2.1.2.1 x.2.1.2.2.1 x.2.1.2.2.2.1, fun _ _ => .dead⟩
theorem s37' (ac nc mc : Nat) (tc : Nat → ByteArray) (vc : Nat → ByteArray) (gc : Nat → Int) (wc : Nat → Bool) (an nn mn : Nat) (tn : Nat → Int) (ag ng mg : Nat) (tg : Nat → Int) (vg : Nat → Int) (rc : Int) (ao no mo : Nat) (to : Nat → Int) (hp : (ac + nc ≤ mc ∧ an + nn ≤ mn ∧ ag + ng ≤ mg ∧ ao + no ≤ mo ∧ no ≤ 20) ∧ S.ttE nc (fun j => tc (j + ac)) (fun j => vc (j + ac)) (fun j => gc (j + ac)) nn (fun j => tn (j + an)) ng (fun j => tg (j + ag)) (fun j => vg (j + ag)) rc = 0 ∧ (S.runS nc (fun j => gc (j + ac)) (fun j => wc (j + ac)) ng (fun j => tg (j + ag)) (fun j => vg (j + ag)) rc (fun j => to (j + ao)) 0 no 0 (-1) rc (S.mkl nn (fun j => tn (j + an))) []).2.1 = true) : ∀ (k i : Nat) (x0 x1 : Int) (x3 : List Int), i + k = no → 0 ≤ x0 → x0 ≤ 1200 * i → -1 ≤ x1 → x1 ≤ x0 → Holds (x3.length = i) → Comes (q37 ac nc mc tc vc gc wc an nn mn tn ag ng mg tg vg rc ao no mo to) (.h0 x0 x1 (i : Int) x3) (S.stS (fun j => gc (j + ac)) (fun j => wc (j + ac)) rc (fun j => to (j + ao)) i k x0 x1 x3) := by
  obtain ⟨⟨hp1, hp2, hp3, hp4, hp5⟩, hT, hR⟩ := hp
  have hin := runIn no 0 _ _ _ _ _ hR
  clear hR
  obtain ⟨hT, tg1, -⟩ := tt_ok hT
  intro k
  induction k with
  | zero =>
    intro i x0 x1 x3 hi h1 h2 h3 h4 hl
    apply Comes.of
    rw [q37]
    exact goes_no (decide_eq_false (by omega)) (goes_inr.mpr rfl)
  | succ k ih =>
    intro i x0 x1 x3 hi h1 h2 h3 h4 hl
    have hl' := hl.get
    have hr := hin i (Nat.zero_le _) (by omega)
    simp only [S.stS]
    generalize hc : to (i + ao) = c at *
    have hg := tg1 c.toNat (by omega)
    generalize hz : gc (c.toNat + ac) = z at *
    cases hw : wc (c.toNat + ac)
    · rw [if_neg Bool.false_ne_true]
      have ih := ih (i + 1) (x0 + z) x1 (S.snoc x3 x0) (by omega) (by omega) (by omega) h3 (by omega) ⟨by rw [snoc_len]; omega⟩
      clear hin tg1 hl
      apply Comes.of
      rw [q37]
      simp only [Int.toNat_natCast, hc, hz, hw]
      repeat' first
        | with_reducible refine goes_if (fun h => ?_) (fun h => ?_) <;> (try simp only [lim64, imp_false, decide_eq_true_eq, decide_eq_false_iff_not, Int.toNat_natCast, toNat_pred, toNat_succ, Option.getD_some, Option.getD_none, Bool.not_eq_true', Bool.not_eq_false', Bool.and_eq_true, Bool.or_eq_true, Bool.and_eq_false_iff, Bool.or_eq_false_iff, bne_iff_ne, beq_iff_eq, bne_eq_false_iff_eq, beq_eq_false_iff_ne, ne_eq, not_and, Int.not_le, Int.not_lt, ge_iff_le, gt_iff_lt, Nat.not_lt, Nat.not_le, Bool.not_eq_true, Bool.not_eq_false, Bool.true_eq_false, Bool.false_eq_true, not_false_eq_true, not_true_eq_false] at h)
        | exact goes_none.mpr (by omega)
      all_goals first | (exfalso; omega) | exact ih
    · rw [if_pos rfl]
      by_cases hy : 0 ≤ x1
      · rw [if_pos hy]
        have ih := ih (i + 1) (max x0 (x1 + rc) + z) (max x0 (x1 + rc)) (S.snoc x3 (max x0 (x1 + rc))) (by omega) (by omega) (by omega) (by omega) (by omega) ⟨by rw [snoc_len]; omega⟩
        clear hin tg1 hl
        apply Comes.of
        rw [q37]
        simp only [Int.toNat_natCast, hc, hz, hw]
        repeat' first
          | with_reducible refine goes_if (fun h => ?_) (fun h => ?_) <;> (try simp only [lim64, imp_false, decide_eq_true_eq, decide_eq_false_iff_not, Int.toNat_natCast, toNat_pred, toNat_succ, Option.getD_some, Option.getD_none, Bool.not_eq_true', Bool.not_eq_false', Bool.and_eq_true, Bool.or_eq_true, Bool.and_eq_false_iff, Bool.or_eq_false_iff, bne_iff_ne, beq_iff_eq, bne_eq_false_iff_eq, beq_eq_false_iff_ne, ne_eq, not_and, Int.not_le, Int.not_lt, ge_iff_le, gt_iff_lt, Nat.not_lt, Nat.not_le, Bool.not_eq_true, Bool.not_eq_false, Bool.true_eq_false, Bool.false_eq_true, not_false_eq_true, not_true_eq_false] at h)
          | exact goes_none.mpr (by omega)
        all_goals first | (exfalso; omega) | exact ih
      · rw [if_neg hy]
        have ih := ih (i + 1) (x0 + z) x0 (S.snoc x3 x0) (by omega) (by omega) (by omega) (by omega) (by omega) ⟨by rw [snoc_len]; omega⟩
        clear hin tg1 hl
        apply Comes.of
        rw [q37]
        simp only [Int.toNat_natCast, hc, hz, hw]
        repeat' first
          | with_reducible refine goes_if (fun h => ?_) (fun h => ?_) <;> (try simp only [lim64, imp_false, decide_eq_true_eq, decide_eq_false_iff_not, Int.toNat_natCast, toNat_pred, toNat_succ, Option.getD_some, Option.getD_none, Bool.not_eq_true', Bool.not_eq_false', Bool.and_eq_true, Bool.or_eq_true, Bool.and_eq_false_iff, Bool.or_eq_false_iff, bne_iff_ne, beq_iff_eq, bne_eq_false_iff_eq, beq_eq_false_iff_ne, ne_eq, not_and, Int.not_le, Int.not_lt, ge_iff_le, gt_iff_lt, Nat.not_lt, Nat.not_le, Bool.not_eq_true, Bool.not_eq_false, Bool.true_eq_false, Bool.false_eq_true, not_false_eq_true, not_true_eq_false] at h)
          | exact goes_none.mpr (by omega)
        all_goals first | (exfalso; omega) | exact ih
theorem s37 (ac nc mc : Nat) (tc : Nat → ByteArray) (vc : Nat → ByteArray) (gc : Nat → Int) (wc : Nat → Bool) (an nn mn : Nat) (tn : Nat → Int) (ag ng mg : Nat) (tg : Nat → Int) (vg : Nat → Int) (rc : Int) (ao no mo : Nat) (to : Nat → Int) (hp : (ac + nc ≤ mc ∧ an + nn ≤ mn ∧ ag + ng ≤ mg ∧ ao + no ≤ mo ∧ no ≤ 20) ∧ S.ttE nc (fun j => tc (j + ac)) (fun j => vc (j + ac)) (fun j => gc (j + ac)) nn (fun j => tn (j + an)) ng (fun j => tg (j + ag)) (fun j => vg (j + ag)) rc = 0 ∧ (S.runS nc (fun j => gc (j + ac)) (fun j => wc (j + ac)) ng (fun j => tg (j + ag)) (fun j => vg (j + ag)) rc (fun j => to (j + ao)) 0 no 0 (-1) rc (S.mkl nn (fun j => tn (j + an))) []).2.1 = true) : Goes ((q37 ac nc mc tc vc gc wc an nn mn tn ag ng mg tg vg rc ao no mo to)) ((p37 ac nc mc tc vc gc wc an nn mn tn ag ng mg tg vg rc ao no mo to)) (S.stS (fun j => gc (j + ac)) (fun j => wc (j + ac)) rc (fun j => to (j + ao)) 0 no 0 (-1) []) := by
  exact s37' ac nc mc tc vc gc wc an nn mn tn ag ng mg tg vg rc ao no mo to hp no 0 0 (-1) [] (Nat.zero_add _) (Int.le_refl _) (by omega) (by omega) (by omega) ⟨rfl⟩

theorem k37_ok : k37.ok Try.prog := by
  intro x hx
  obtain ⟨⟨⟨ac, nc, mc, tc, vc, gc, wc, _⟩, ⟨an, nn, mn, tn, _⟩, ⟨ag, ng, mg, tg, vg, _⟩, rc, _⟩, ⟨ao, no, mo, to, _⟩, _⟩ := x
  obtain ⟨h1, h2⟩ := a37 ac nc mc tc vc gc wc an nn mn tn ag ng mg tg vg rc ao no mo to (s37 ac nc mc tc vc gc wc an nn mn tn ag ng mg tg vg rc ao no mo to (of_dec hx rfl))
  exact ⟨⟨400, (by decide : 4 + 1 + 1 ≤ 400), h1⟩, h2⟩
noncomputable def xE (test : Bool → Prop → Prop → Prop) : Ext := consX test [k15, k36, k37]
theorem xE_ok : ExtOk Try.prog (xE cond) := consX_ok ⟨k15_ok, k36_ok, k37_ok, trivial⟩

end Go.Ev
