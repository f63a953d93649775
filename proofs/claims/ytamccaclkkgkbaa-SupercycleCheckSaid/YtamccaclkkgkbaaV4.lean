/-
  Few.
-/
import Derived.Test.YtamccaclkkgkbaaV3
namespace Go.Ev
open Go.Proofs
set_option linter.unusedVariables false
set_option linter.unusedSimpArgs false
set_option maxRecDepth 100000

namespace S
def sum100 (t : Nat → Int) : Nat → Int
  | 0 => 0
  | i + 1 => sum100 t i + Min.min (Max.max (t i) 0) 100
def fewS (nc : Nat) (t v : Nat → ByteArray) (nn : Nat) (tn : Nat → Int) (ng : Nat) (e : Int) : Bool := if 10 < nc ∨ 10 < nn ∨ 40 < ng then false else if any (fun j => decide (40 < (t j).size) || decide (40 < (v j).size)) nc = true then false else ((e != 0) || decide (sum100 tn nn ≤ 6))
end S
theorem sum100_b {t : Nat → Int} : ∀ {i : Nat}, 0 ≤ S.sum100 t i ∧ S.sum100 t i ≤ 100 * i
  | 0 => ⟨Int.le_refl _, Int.le_refl _⟩
  | i + 1 => by
    have ih := sum100_b (t := t) (i := i)
    simp only [S.sum100]
    omega
inductive St10 where
  | h0 (x0 : Int)
  | h1 (x0 : Int) (x1 : Int)
abbrev Rt10 := Bool
noncomputable def V10 (ac nc mc : Nat) (tc : Nat → ByteArray) (vc : Nat → ByteArray) (gc : Nat → Int) (wc : Nat → Bool) (an nn mn : Nat) (tn : Nat → Int) (ag ng mg : Nat) (tg : Nat → Int) (vg : Nat → Int) (rc : Int) (r : Rt10) : PV := PV.bool r
noncomputable def N10 (ac nc mc : Nat) (tc : Nat → ByteArray) (vc : Nat → ByteArray) (gc : Nat → Int) (wc : Nat → Bool) (an nn mn : Nat) (tn : Nat → Int) (ag ng mg : Nat) (tg : Nat → Int) (vg : Nat → Int) (rc : Int) (r : Rt10) : List Blk := []
noncomputable def I10 (ac nc mc : Nat) (tc : Nat → ByteArray) (vc : Nat → ByteArray) (gc : Nat → Int) (wc : Nat → Bool) (an nn mn : Nat) (tn : Nat → Int) (ag ng mg : Nat) (tg : Nat → Int) (vg : Nat → Int) (rc : Int) : St10 → Hd
  | .h0 x0 => ⟨hd Try.f10 0, [PV.ptr (PA.mk (3) (0) (0) (0)), PV.int IntKind.i64 x0,
 PV.unk, PV.unk], [[(3, (true, Blk.cells
 [PV.loose (PA.mk (0) (4) ac (0)) nc,
 PV.loose (PA.mk (1) (1) an (0)) nn,
 PV.loose (PA.mk (2) (2) ag (0)) ng, PV.int IntKind.i64 rc]))], [(0, (false, .cols mc [.str tc, .str vc, .int .i64 gc, .bool wc])), (1, (false, .cols mn [.int .i64 tn])), (2, (false, .cols mg [.int .i64 tg, .int .i64 vg]))]], 4⟩
  | .h1 x0 x1 => ⟨hd Try.f10 1, [PV.ptr (PA.mk (3) (0) (0) (0)), PV.unk,
 PV.int IntKind.i64 x0, PV.int IntKind.i64 x1], [[(3, (true, Blk.cells
 [PV.loose (PA.mk (0) (4) ac (0)) nc,
 PV.loose (PA.mk (1) (1) an (0)) nn,
 PV.loose (PA.mk (2) (2) ag (0)) ng, PV.int IntKind.i64 rc]))], [(0, (false, .cols mc [.str tc, .str vc, .int .i64 gc, .bool wc])), (1, (false, .cols mn [.int .i64 tn])), (2, (false, .cols mg [.int .i64 tg, .int .i64 vg]))]], 4⟩
noncomputable def q10 (ac nc mc : Nat) (tc : Nat → ByteArray) (vc : Nat → ByteArray) (gc : Nat → Int) (wc : Nat → Bool) (an nn mn : Nat) (tn : Nat → Int) (ag ng mg : Nat) (tg : Nat → Int) (vg : Nat → Int) (rc : Int) : St10 → Option (St10 ⊕ Rt10)
  | .h0 x0 => bif (decide (x0 < (↑nc : Int)))
 then (bif (decide ((0 : Int) ≤ x0 ∧ x0 < (↑nc : Int)))
 then (bif (decide (Int.toNat x0 + ac < mc))
 then (bif (decide ((↑(ByteArray.size (tc (Int.toNat x0 + ac))) : Int) > (40 : Int)))
 then (some (.inr (false)))
 else (bif (decide ((↑(ByteArray.size (vc (Int.toNat x0 + ac))) : Int) > (40 : Int)))
 then (some (.inr (false)))
 else (bif (lim IntKind.i64 (x0 + (1 : Int)))
 then (some (.inl (.h0 (x0 + (1 : Int)))))
 else (none))))
 else (none))
 else (none))
 else (some (.inl (.h1 ((0 : Int)) ((0 : Int)))))
  | .h1 x0 x1 => bif (decide (x1 < (↑nn : Int)))
 then (bif (decide ((0 : Int) ≤ x1 ∧ x1 < (↑nn : Int)))
 then (bif (decide (Int.toNat x1 + an < mn))
 then (bif (lim IntKind.i64 (x0 + Min.min (Max.max (tn (Int.toNat x1 + an)) (0 : Int)) (100 : Int)))
 then (bif (lim IntKind.i64 (x1 + (1 : Int)))
 then (some (.inl (.h1 (x0 + Min.min (Max.max (tn (Int.toNat x1 + an)) (0 : Int)) (100 : Int)) (x1 + (1 : Int)))))
 else (none))
 else (none))
 else (none))
 else (none))
 else (bif (decide (ac + nc ≤ mc ∧ an + nn ≤ mn ∧ ag + ng ≤ mg))
 then (bif (S.ttE nc (fun (j : Nat) => tc (j + ac)) (fun (j : Nat) => vc (j + ac)) (fun (j : Nat) => gc (j + ac)) nn
 (fun (j : Nat) => tn (j + an)) ng (fun (j : Nat) => tg (j + ag)) (fun (j : Nat) => vg (j + ag)) rc !=
 (0 : Int))
 then (some (.inr (true)))
 else (bif (decide (x0 ≤ (6 : Int)))
 then (some (.inr (true)))
 else (some (.inr (false)))))
 else (none))
noncomputable def p10 (ac nc mc : Nat) (tc : Nat → ByteArray) (vc : Nat → ByteArray) (gc : Nat → Int) (wc : Nat → Bool) (an nn mn : Nat) (tn : Nat → Int) (ag ng mg : Nat) (tg : Nat → Int) (vg : Nat → Int) (rc : Int) : Option (St10 ⊕ Rt10) := bif (decide ((↑nc : Int) > (10 : Int)))
 then (some (.inr (false)))
 else (bif (decide ((↑nn : Int) > (10 : Int)))
 then (some (.inr (false)))
 else (bif (decide ((↑ng : Int) > (40 : Int)))
 then (some (.inr (false)))
 else (some (.inl (.h0 ((0 : Int)))))))
noncomputable def Te10 (test : Bool → Prop → Prop → Prop) (Kst : KS) (Kret : KR) (ac nc mc : Nat) (tc : Nat → ByteArray) (vc : Nat → ByteArray) (gc : Nat → Int) (wc : Nat → Bool) (an nn mn : Nat) (tn : Nat → Int) (ag ng mg : Nat) (tg : Nat → Int) (vg : Nat → Int) (rc : Int) : Prop :=
  test (decide ((↑nc : Int) > (10 : Int)))
 (Kret (PV.tf false) ([[(2, false, Blk.cols mg [Col.int IntKind.i64 tg, Col.int IntKind.i64 vg]),
 (1, false, Blk.cols mn [Col.int IntKind.i64 tn]),
 (0, false,
 Blk.cols mc [Col.str tc, Col.str vc, Col.int IntKind.i64 gc, Col.bool wc])]]) (4))
 (test (decide ((↑nn : Int) > (10 : Int)))
 (Kret (PV.tf false) ([[(2, false, Blk.cols mg [Col.int IntKind.i64 tg, Col.int IntKind.i64 vg]),
 (1, false, Blk.cols mn [Col.int IntKind.i64 tn]),
 (0, false,
 Blk.cols mc [Col.str tc, Col.str vc, Col.int IntKind.i64 gc, Col.bool wc])]]) (4))
 (test (decide ((↑ng : Int) > (40 : Int)))
 (Kret (PV.tf false) ([[(2, false, Blk.cols mg [Col.int IntKind.i64 tg, Col.int IntKind.i64 vg]),
 (1, false, Blk.cols mn [Col.int IntKind.i64 tn]),
 (0, false,
 Blk.cols mc [Col.str tc, Col.str vc, Col.int IntKind.i64 gc, Col.bool wc])]]) (4))
 (Kst (hd Try.f10 0) ([PV.ptr (PA.mk (3) (0) (0) (0)), PV.int IntKind.i64 (0 : Int),
 PV.unk, PV.unk]) ([[(2, false, Blk.cols mg [Col.int IntKind.i64 tg, Col.int IntKind.i64 vg]),
 (1, false, Blk.cols mn [Col.int IntKind.i64 tn]),
 (0, false,
 Blk.cols mc [Col.str tc, Col.str vc, Col.int IntKind.i64 gc, Col.bool wc]),
 (3, true,
 Blk.cells
 [PV.loose (PA.mk (0) (4) ac (0)) nc,
 PV.loose (PA.mk (1) (1) an (0)) nn,
 PV.loose (PA.mk (2) (2) ag (0)) ng, PV.int IntKind.i64 rc])]]) (4))))
set_option maxRecDepth 100000 in
theorem te10 (test : Bool → Prop → Prop → Prop) (Kst : KS) (Kret : KR) (ac nc mc : Nat) (tc : Nat → ByteArray) (vc : Nat → ByteArray) (gc : Nat → Int) (wc : Nat → Bool) (an nn mn : Nat) (tn : Nat → Int) (ag ng mg : Nat) (tg : Nat → Int) (vg : Nat → Int) (rc : Int) : run test Try.env true (xF test) true 400 ⟨10, [.cd (mkFn Try.f10).body], argT 0 [.agg [.loose ⟨0, 4, ac, 0⟩ nc, .loose ⟨1, 1, an, 0⟩ nn, .loose ⟨2, 2, ag, 0⟩ ng, .int .i64 rc]], [[], [(0, (false, .cols mc [.str tc, .str vc, .int .i64 gc, .bool wc])), (1, (false, .cols mn [.int .i64 tn])), (2, (false, .cols mg [.int .i64 tg, .int .i64 vg]))]], 3⟩ (proj 3 [1, 3, 4, 5] Kst Kret) =
  Te10 test Kst Kret ac nc mc tc vc gc wc an nn mn tn ag ng mg tg vg rc := by kernel_rfl
noncomputable def T10_0 (test : Bool → Prop → Prop → Prop) (Kst : KS) (Kret : KR) (ac nc mc : Nat) (tc : Nat → ByteArray) (vc : Nat → ByteArray) (gc : Nat → Int) (wc : Nat → Bool) (an nn mn : Nat) (tn : Nat → Int) (ag ng mg : Nat) (tg : Nat → Int) (vg : Nat → Int) (rc : Int) (x0 : Int) : Prop :=
  test (decide (x0 < (↑nc : Int)))
 (test (decide ((0 : Int) ≤ x0 ∧ x0 < (↑nc : Int)))
 (test (decide (Int.toNat x0 + ac < mc))
 (test (decide ((↑(ByteArray.size (tc (Int.toNat x0 + ac))) : Int) > (40 : Int)))
 (Kret (PV.tf false) ([[(2, false, Blk.cols mg [Col.int IntKind.i64 tg, Col.int IntKind.i64 vg]),
 (1, false, Blk.cols mn [Col.int IntKind.i64 tn]),
 (0, false,
 Blk.cols mc [Col.str tc, Col.str vc, Col.int IntKind.i64 gc, Col.bool wc])]]) (4))
 (test (decide ((0 : Int) ≤ x0 ∧ x0 < (↑nc : Int)))
 (test (decide (Int.toNat x0 + ac < mc))
 (test (decide ((↑(ByteArray.size (vc (Int.toNat x0 + ac))) : Int) > (40 : Int)))
 (Kret (PV.tf false) ([[(2, false, Blk.cols mg [Col.int IntKind.i64 tg, Col.int IntKind.i64 vg]),
 (1, false, Blk.cols mn [Col.int IntKind.i64 tn]),
 (0, false,
 Blk.cols mc [Col.str tc, Col.str vc, Col.int IntKind.i64 gc, Col.bool wc])]]) (4))
 (test (lim IntKind.i64 (x0 + (1 : Int)))
 (Kst (hd Try.f10 0) ([PV.ptr (PA.mk (3) (0) (0) (0)),
 PV.int IntKind.i64 (x0 + (1 : Int)), PV.unk, PV.unk]) ([[(2, false, Blk.cols mg [Col.int IntKind.i64 tg, Col.int IntKind.i64 vg]),
 (1, false, Blk.cols mn [Col.int IntKind.i64 tn]),
 (0, false,
 Blk.cols mc [Col.str tc, Col.str vc, Col.int IntKind.i64 gc, Col.bool wc]),
 (3, true,
 Blk.cells
 [PV.loose (PA.mk (0) (4) ac (0)) nc,
 PV.loose (PA.mk (1) (1) an (0)) nn,
 PV.loose (PA.mk (2) (2) ag (0)) ng, PV.int IntKind.i64 rc])]]) (4))
 (False)))
 (False))
 (False)))
 (False))
 (False))
 (Kst (hd Try.f10 1) ([PV.ptr (PA.mk (3) (0) (0) (0)), PV.int IntKind.i64 x0,
 PV.int IntKind.i64 (0 : Int), PV.int IntKind.i64 (0 : Int)]) ([[(2, false, Blk.cols mg [Col.int IntKind.i64 tg, Col.int IntKind.i64 vg]),
 (1, false, Blk.cols mn [Col.int IntKind.i64 tn]),
 (0, false,
 Blk.cols mc [Col.str tc, Col.str vc, Col.int IntKind.i64 gc, Col.bool wc]),
 (3, true,
 Blk.cells
 [PV.loose (PA.mk (0) (4) ac (0)) nc,
 PV.loose (PA.mk (1) (1) an (0)) nn,
 PV.loose (PA.mk (2) (2) ag (0)) ng, PV.int IntKind.i64 rc])]]) (4))
set_option maxRecDepth 100000 in
theorem t10_0 (test : Bool → Prop → Prop → Prop) (Kst : KS) (Kret : KR) (ac nc mc : Nat) (tc : Nat → ByteArray) (vc : Nat → ByteArray) (gc : Nat → Int) (wc : Nat → Bool) (an nn mn : Nat) (tn : Nat → Int) (ag ng mg : Nat) (tg : Nat → Int) (vg : Nat → Int) (rc : Int) (x0 : Int) : run test Try.env true (xF test) true 400 ⟨10, hd Try.f10 0, zipT [1, 3, 4, 5] [PV.ptr (PA.mk (3) (0) (0) (0)), PV.int IntKind.i64 x0,
 PV.unk, PV.unk], [[(3, (true, Blk.cells
 [PV.loose (PA.mk (0) (4) ac (0)) nc,
 PV.loose (PA.mk (1) (1) an (0)) nn,
 PV.loose (PA.mk (2) (2) ag (0)) ng, PV.int IntKind.i64 rc]))], [(0, (false, .cols mc [.str tc, .str vc, .int .i64 gc, .bool wc])), (1, (false, .cols mn [.int .i64 tn])), (2, (false, .cols mg [.int .i64 tg, .int .i64 vg]))]], 4⟩ (proj 3 [1, 3, 4, 5] Kst Kret) =
  T10_0 test Kst Kret ac nc mc tc vc gc wc an nn mn tn ag ng mg tg vg rc x0 := by kernel_rfl
noncomputable def T10_1 (test : Bool → Prop → Prop → Prop) (Kst : KS) (Kret : KR) (ac nc mc : Nat) (tc : Nat → ByteArray) (vc : Nat → ByteArray) (gc : Nat → Int) (wc : Nat → Bool) (an nn mn : Nat) (tn : Nat → Int) (ag ng mg : Nat) (tg : Nat → Int) (vg : Nat → Int) (rc : Int) (x0 : Int) (x1 : Int) : Prop :=
  test (decide (x1 < (↑nn : Int)))
 (test (decide ((0 : Int) ≤ x1 ∧ x1 < (↑nn : Int)))
 (test (decide (Int.toNat x1 + an < mn))
 (test (lim IntKind.i64 (x0 + Min.min (Max.max (tn (Int.toNat x1 + an)) (0 : Int)) (100 : Int)))
 (test (lim IntKind.i64 (x1 + (1 : Int)))
 (Kst (hd Try.f10 1) ([PV.ptr (PA.mk (3) (0) (0) (0)), PV.unk,
 PV.int IntKind.i64 (x0 + Min.min (Max.max (tn (Int.toNat x1 + an)) (0 : Int)) (100 : Int)),
 PV.int IntKind.i64 (x1 + (1 : Int))]) ([[(2, false, Blk.cols mg [Col.int IntKind.i64 tg, Col.int IntKind.i64 vg]),
 (1, false, Blk.cols mn [Col.int IntKind.i64 tn]),
 (0, false,
 Blk.cols mc [Col.str tc, Col.str vc, Col.int IntKind.i64 gc, Col.bool wc]),
 (3, true,
 Blk.cells
 [PV.loose (PA.mk (0) (4) ac (0)) nc,
 PV.loose (PA.mk (1) (1) an (0)) nn,
 PV.loose (PA.mk (2) (2) ag (0)) ng, PV.int IntKind.i64 rc])]]) (4))
 (False))
 (False))
 (False))
 (False))
 (test (decide (ac + nc ≤ mc ∧ an + nn ≤ mn ∧ ag + ng ≤ mg))
 (test (S.ttE nc (fun (j : Nat) => tc (j + ac)) (fun (j : Nat) => vc (j + ac)) (fun (j : Nat) => gc (j + ac)) nn
 (fun (j : Nat) => tn (j + an)) ng (fun (j : Nat) => tg (j + ag)) (fun (j : Nat) => vg (j + ag)) rc !=
 (0 : Int))
 (Kret (PV.tf true) ([[(2, false, Blk.cols mg [Col.int IntKind.i64 tg, Col.int IntKind.i64 vg]),
 (1, false, Blk.cols mn [Col.int IntKind.i64 tn]),
 (0, false,
 Blk.cols mc [Col.str tc, Col.str vc, Col.int IntKind.i64 gc, Col.bool wc])]]) (5))
 (test (decide (x0 ≤ (6 : Int)))
 (Kret (PV.tf true) ([[(2, false, Blk.cols mg [Col.int IntKind.i64 tg, Col.int IntKind.i64 vg]),
 (1, false, Blk.cols mn [Col.int IntKind.i64 tn]),
 (0, false,
 Blk.cols mc [Col.str tc, Col.str vc, Col.int IntKind.i64 gc, Col.bool wc])]]) (5))
 (Kret (PV.tf false) ([[(2, false, Blk.cols mg [Col.int IntKind.i64 tg, Col.int IntKind.i64 vg]),
 (1, false, Blk.cols mn [Col.int IntKind.i64 tn]),
 (0, false,
 Blk.cols mc [Col.str tc, Col.str vc, Col.int IntKind.i64 gc, Col.bool wc])]]) (5))))
 (False))
set_option maxRecDepth 100000 in
theorem t10_1 (test : Bool → Prop → Prop → Prop) (Kst : KS) (Kret : KR) (ac nc mc : Nat) (tc : Nat → ByteArray) (vc : Nat → ByteArray) (gc : Nat → Int) (wc : Nat → Bool) (an nn mn : Nat) (tn : Nat → Int) (ag ng mg : Nat) (tg : Nat → Int) (vg : Nat → Int) (rc : Int) (x0 : Int) (x1 : Int) : run test Try.env true (xF test) true 400 ⟨10, hd Try.f10 1, zipT [1, 3, 4, 5] [PV.ptr (PA.mk (3) (0) (0) (0)), PV.unk,
 PV.int IntKind.i64 x0, PV.int IntKind.i64 x1], [[(3, (true, Blk.cells
 [PV.loose (PA.mk (0) (4) ac (0)) nc,
 PV.loose (PA.mk (1) (1) an (0)) nn,
 PV.loose (PA.mk (2) (2) ag (0)) ng, PV.int IntKind.i64 rc]))], [(0, (false, .cols mc [.str tc, .str vc, .int .i64 gc, .bool wc])), (1, (false, .cols mn [.int .i64 tn])), (2, (false, .cols mg [.int .i64 tg, .int .i64 vg]))]], 4⟩ (proj 3 [1, 3, 4, 5] Kst Kret) =
  T10_1 test Kst Kret ac nc mc tc vc gc wc an nn mn tn ag ng mg tg vg rc x0 x1 := by kernel_rfl
attribute [local irreducible] Int.subNatNat in
set_option maxRecDepth 100000 in
theorem be10 (ac nc mc : Nat) (tc : Nat → ByteArray) (vc : Nat → ByteArray) (gc : Nat → Int) (wc : Nat → Bool) (an nn mn : Nat) (tn : Nat → Int) (ag ng mg : Nat) (tg : Nat → Int) (vg : Nat → Int) (rc : Int) (Kst : KS) (Kret : KR) (x : St10 ⊕ Rt10) (hS : HS 3 400 ((I10 ac nc mc tc vc gc wc an nn mn tn ag ng mg tg vg rc)) Kst x) (hR : HR 3 400 ((V10 ac nc mc tc vc gc wc an nn mn tn ag ng mg tg vg rc)) (fun r => [newL (3 + 1) ((N10 ac nc mc tc vc gc wc an nn mn tn ag ng mg tg vg rc) r) ++ [(0, (false, .cols mc [.str tc, .str vc, .int .i64 gc, .bool wc])), (1, (false, .cols mn [.int .i64 tn])), (2, (false, .cols mg [.int .i64 tg, .int .i64 vg]))]]) Kret x) (h : (bif (decide ((↑nc : Int) > (10 : Int)))
 then (some (.inr (false)))
 else (bif (decide ((↑nn : Int) > (10 : Int)))
 then (some (.inr (false)))
 else (bif (decide ((↑ng : Int) > (40 : Int)))
 then (some (.inr (false)))
 else (some (.inl (.h0 ((0 : Int))))))) : Option (St10 ⊕ Rt10)) = some x) : Te10 cond Kst Kret ac nc mc tc vc gc wc an nn mn tn ag ng mg tg vg rc := by
  unfold Te10
  exact bif_split h
   (fun c0 h => ret_at hR _ h (fun n => n) rfl rfl rfl (rn_bool_tf rfl) rfl (entl_bor (use_lo rfl) rfl rfl (entl_bor (use_lo rfl) rfl rfl (entl_bor (use_lo rfl) rfl rfl entl_nil))))
   (fun c0 h => bif_split h
   (fun c1 h => ret_at hR _ h (fun n => n) rfl rfl rfl (rn_bool_tf rfl) rfl (entl_bor (use_lo rfl) rfl rfl (entl_bor (use_lo rfl) rfl rfl (entl_bor (use_lo rfl) rfl rfl entl_nil))))
   (fun c1 h => bif_split h
   (fun c2 h => ret_at hR _ h (fun n => n) rfl rfl rfl (rn_bool_tf rfl) rfl (entl_bor (use_lo rfl) rfl rfl (entl_bor (use_lo rfl) rfl rfl (entl_bor (use_lo rfl) rfl rfl entl_nil))))
   (fun c2 h => stop_at hS _ h (fun n => bif Nat.beq n 3 then 3 else n) rfl rfl rfl ⟨(rn_ptr (use_own rfl) rfl rfl), ⟨(rn_int rfl), ⟨(rn_unk _), ⟨(rn_unk _), trivial⟩⟩⟩⟩ rfl (entl_b (use_own rfl) rfl (by simp) (rb_cells ⟨(rn_loose (use_lo rfl) rfl rfl rfl), (rn_loose (use_lo rfl) rfl rfl rfl), (rn_loose (use_lo rfl) rfl rfl rfl), (rn_int rfl), trivial⟩) (entl_bor (use_lo rfl) rfl rfl (entl_bor (use_lo rfl) rfl rfl (entl_bor (use_lo rfl) rfl rfl entl_nil)))))))
attribute [local irreducible] Int.subNatNat in
set_option maxRecDepth 100000 in
theorem b10_0 (ac nc mc : Nat) (tc : Nat → ByteArray) (vc : Nat → ByteArray) (gc : Nat → Int) (wc : Nat → Bool) (an nn mn : Nat) (tn : Nat → Int) (ag ng mg : Nat) (tg : Nat → Int) (vg : Nat → Int) (rc : Int) (Kst : KS) (Kret : KR) (x : St10 ⊕ Rt10) (hS : HS 3 400 ((I10 ac nc mc tc vc gc wc an nn mn tn ag ng mg tg vg rc)) Kst x) (hR : HR 3 400 ((V10 ac nc mc tc vc gc wc an nn mn tn ag ng mg tg vg rc)) (fun r => [newL (3 + 1) ((N10 ac nc mc tc vc gc wc an nn mn tn ag ng mg tg vg rc) r) ++ [(0, (false, .cols mc [.str tc, .str vc, .int .i64 gc, .bool wc])), (1, (false, .cols mn [.int .i64 tn])), (2, (false, .cols mg [.int .i64 tg, .int .i64 vg]))]]) Kret x) (x0 : Int) (h : (bif (decide (x0 < (↑nc : Int)))
 then (bif (decide ((0 : Int) ≤ x0 ∧ x0 < (↑nc : Int)))
 then (bif (decide (Int.toNat x0 + ac < mc))
 then (bif (decide ((↑(ByteArray.size (tc (Int.toNat x0 + ac))) : Int) > (40 : Int)))
 then (some (.inr (false)))
 else (bif (decide ((↑(ByteArray.size (vc (Int.toNat x0 + ac))) : Int) > (40 : Int)))
 then (some (.inr (false)))
 else (bif (lim IntKind.i64 (x0 + (1 : Int)))
 then (some (.inl (.h0 (x0 + (1 : Int)))))
 else (none))))
 else (none))
 else (none))
 else (some (.inl (.h1 ((0 : Int)) ((0 : Int))))) : Option (St10 ⊕ Rt10)) = some x) : T10_0 cond Kst Kret ac nc mc tc vc gc wc an nn mn tn ag ng mg tg vg rc x0 := by
  unfold T10_0
  exact bif_split h
   (fun c0 h => bif_split h
   (fun c1 h => bif_split h
   (fun c2 h => bif_split h
   (fun c3 h => ret_at hR _ h (fun n => n) rfl rfl rfl (rn_bool_tf rfl) rfl (entl_bor (use_lo rfl) rfl rfl (entl_bor (use_lo rfl) rfl rfl (entl_bor (use_lo rfl) rfl rfl entl_nil))))
   (fun c3 h => cond_yes c1 (cond_yes c2 (bif_split h
   (fun c4 h => ret_at hR _ h (fun n => n) rfl rfl rfl (rn_bool_tf rfl) rfl (entl_bor (use_lo rfl) rfl rfl (entl_bor (use_lo rfl) rfl rfl (entl_bor (use_lo rfl) rfl rfl entl_nil))))
   (fun c4 h => bif_split h
   (fun c5 h => stop_at hS _ h (fun n => bif Nat.beq n 3 then 3 else n) rfl rfl rfl ⟨(rn_ptr (use_own rfl) rfl rfl), ⟨(rn_int rfl), ⟨(rn_unk _), ⟨(rn_unk _), trivial⟩⟩⟩⟩ rfl (entl_b (use_own rfl) rfl (by simp) (rb_cells ⟨(rn_loose (use_lo rfl) rfl rfl rfl), (rn_loose (use_lo rfl) rfl rfl rfl), (rn_loose (use_lo rfl) rfl rfl rfl), (rn_int rfl), trivial⟩) (entl_bor (use_lo rfl) rfl rfl (entl_bor (use_lo rfl) rfl rfl (entl_bor (use_lo rfl) rfl rfl entl_nil)))))
   (fun c5 h => no_some h))))))
   (fun c2 h => no_some h))
   (fun c1 h => no_some h))
   (fun c0 h => stop_at hS _ h (fun n => bif Nat.beq n 3 then 3 else n) rfl rfl rfl ⟨(rn_ptr (use_own rfl) rfl rfl), ⟨(rn_unk _), ⟨(rn_int rfl), ⟨(rn_int rfl), trivial⟩⟩⟩⟩ rfl (entl_b (use_own rfl) rfl (by simp) (rb_cells ⟨(rn_loose (use_lo rfl) rfl rfl rfl), (rn_loose (use_lo rfl) rfl rfl rfl), (rn_loose (use_lo rfl) rfl rfl rfl), (rn_int rfl), trivial⟩) (entl_bor (use_lo rfl) rfl rfl (entl_bor (use_lo rfl) rfl rfl (entl_bor (use_lo rfl) rfl rfl entl_nil)))))
attribute [local irreducible] Int.subNatNat in
set_option maxRecDepth 100000 in
theorem b10_1 (ac nc mc : Nat) (tc : Nat → ByteArray) (vc : Nat → ByteArray) (gc : Nat → Int) (wc : Nat → Bool) (an nn mn : Nat) (tn : Nat → Int) (ag ng mg : Nat) (tg : Nat → Int) (vg : Nat → Int) (rc : Int) (Kst : KS) (Kret : KR) (x : St10 ⊕ Rt10) (hS : HS 3 400 ((I10 ac nc mc tc vc gc wc an nn mn tn ag ng mg tg vg rc)) Kst x) (hR : HR 3 400 ((V10 ac nc mc tc vc gc wc an nn mn tn ag ng mg tg vg rc)) (fun r => [newL (3 + 1) ((N10 ac nc mc tc vc gc wc an nn mn tn ag ng mg tg vg rc) r) ++ [(0, (false, .cols mc [.str tc, .str vc, .int .i64 gc, .bool wc])), (1, (false, .cols mn [.int .i64 tn])), (2, (false, .cols mg [.int .i64 tg, .int .i64 vg]))]]) Kret x) (x0 : Int) (x1 : Int) (h : (bif (decide (x1 < (↑nn : Int)))
 then (bif (decide ((0 : Int) ≤ x1 ∧ x1 < (↑nn : Int)))
 then (bif (decide (Int.toNat x1 + an < mn))
 then (bif (lim IntKind.i64 (x0 + Min.min (Max.max (tn (Int.toNat x1 + an)) (0 : Int)) (100 : Int)))
 then (bif (lim IntKind.i64 (x1 + (1 : Int)))
 then (some (.inl (.h1 (x0 + Min.min (Max.max (tn (Int.toNat x1 + an)) (0 : Int)) (100 : Int)) (x1 + (1 : Int)))))
 else (none))
 else (none))
 else (none))
 else (none))
 else (bif (decide (ac + nc ≤ mc ∧ an + nn ≤ mn ∧ ag + ng ≤ mg))
 then (bif (S.ttE nc (fun (j : Nat) => tc (j + ac)) (fun (j : Nat) => vc (j + ac)) (fun (j : Nat) => gc (j + ac)) nn
 (fun (j : Nat) => tn (j + an)) ng (fun (j : Nat) => tg (j + ag)) (fun (j : Nat) => vg (j + ag)) rc !=
 (0 : Int))
 then (some (.inr (true)))
 else (bif (decide (x0 ≤ (6 : Int)))
 then (some (.inr (true)))
 else (some (.inr (false)))))
 else (none)) : Option (St10 ⊕ Rt10)) = some x) : T10_1 cond Kst Kret ac nc mc tc vc gc wc an nn mn tn ag ng mg tg vg rc x0 x1 := by
  unfold T10_1
  exact bif_split h
   (fun c0 h => bif_split h
   (fun c1 h => bif_split h
   (fun c2 h => bif_split h
   (fun c3 h => bif_split h
   (fun c4 h => stop_at hS _ h (fun n => bif Nat.beq n 3 then 3 else n) rfl rfl rfl ⟨(rn_ptr (use_own rfl) rfl rfl), ⟨(rn_unk _), ⟨(rn_int rfl), ⟨(rn_int rfl), trivial⟩⟩⟩⟩ rfl (entl_b (use_own rfl) rfl (by simp) (rb_cells ⟨(rn_loose (use_lo rfl) rfl rfl rfl), (rn_loose (use_lo rfl) rfl rfl rfl), (rn_loose (use_lo rfl) rfl rfl rfl), (rn_int rfl), trivial⟩) (entl_bor (use_lo rfl) rfl rfl (entl_bor (use_lo rfl) rfl rfl (entl_bor (use_lo rfl) rfl rfl entl_nil)))))
   (fun c4 h => no_some h))
   (fun c3 h => no_some h))
   (fun c2 h => no_some h))
   (fun c1 h => no_some h))
   (fun c0 h => bif_split h
   (fun c1 h => bif_split h
   (fun c2 h => ret_at hR _ h (fun n => n) rfl rfl rfl (rn_bool_tf rfl) rfl (entl_bor (use_lo rfl) rfl rfl (entl_bor (use_lo rfl) rfl rfl (entl_bor (use_lo rfl) rfl rfl entl_nil))))
   (fun c2 h => bif_split h
   (fun c3 h => ret_at hR _ h (fun n => n) rfl rfl rfl (rn_bool_tf rfl) rfl (entl_bor (use_lo rfl) rfl rfl (entl_bor (use_lo rfl) rfl rfl (entl_bor (use_lo rfl) rfl rfl entl_nil))))
   (fun c3 h => ret_at hR _ h (fun n => n) rfl rfl rfl (rn_bool_tf rfl) rfl (entl_bor (use_lo rfl) rfl rfl (entl_bor (use_lo rfl) rfl rfl (entl_bor (use_lo rfl) rfl rfl entl_nil))))))
   (fun c1 h => no_some h))
theorem a10 (ac nc mc : Nat) (tc : Nat → ByteArray) (vc : Nat → ByteArray) (gc : Nat → Int) (wc : Nat → Bool) (an nn mn : Nat) (tn : Nat → Int) (ag ng mg : Nat) (tg : Nat → Int) (vg : Nat → Int) (rc : Int) {r : Rt10} (h : Goes ((q10 ac nc mc tc vc gc wc an nn mn tn ag ng mg tg vg rc)) ((p10 ac nc mc tc vc gc wc an nn mn tn ag ng mg tg vg rc)) r) : CallR Try.prog 10 [.agg [.loose ⟨0, 4, ac, 0⟩ nc, .loose ⟨1, 1, an, 0⟩ nn, .loose ⟨2, 2, ag, 0⟩ ng, .int .i64 rc]] [[(0, (false, .cols mc [.str tc, .str vc, .int .i64 gc, .bool wc])), (1, (false, .cols mn [.int .i64 tn])), (2, (false, .cols mg [.int .i64 tg, .int .i64 vg]))]] 3 ((V10 ac nc mc tc vc gc wc an nn mn tn ag ng mg tg vg rc) r) ((fun r => [newL (3 + 1) ((N10 ac nc mc tc vc gc wc an nn mn tn ag ng mg tg vg rc) r) ++ [(0, (false, .cols mc [.str tc, .str vc, .int .i64 gc, .bool wc])), (1, (false, .cols mn [.int .i64 tn])), (2, (false, .cols mg [.int .i64 tg, .int .i64 vg]))]]) r) 400 ∧ ∃ F, Try.prog.funcs[10]? = some F ∧ F.body.isSome = true ∧ (F.name == "runtime.NumGoroutine") = false := by
  refine dec_calls (f := 10) (lo := 3) (hi := 400) (H := [[(0, (false, .cols mc [.str tc, .str vc, .int .i64 gc, .bool wc])), (1, (false, .cols mn [.int .i64 tn])), (2, (false, .cols mg [.int .i64 tg, .int .i64 vg]))]]) (args := [.agg [.loose ⟨0, 4, ac, 0⟩ nc, .loose ⟨1, 1, an, 0⟩ nn, .loose ⟨2, 2, ag, 0⟩ ng, .int .i64 rc]]) Try.envOk Try.mixed xF_ok ((I10 ac nc mc tc vc gc wc an nn mn tn ag ng mg tg vg rc)) ((V10 ac nc mc tc vc gc wc an nn mn tn ag ng mg tg vg rc)) (fun r => [newL (3 + 1) ((N10 ac nc mc tc vc gc wc an nn mn tn ag ng mg tg vg rc) r) ++ [(0, (false, .cols mc [.str tc, .str vc, .int .i64 gc, .bool wc])), (1, (false, .cols mn [.int .i64 tn])), (2, (false, .cols mg [.int .i64 tg, .int .i64 vg]))]]) (fn := mkFn Try.f10) (ts := [1, 3, 4, 5]) (n := 400) rfl (by decide) (by simp) (names_of rfl) ?_ ?_ ?_ h
  · intro s; cases s <;> exact ⟨hd_ok _ _, by simp [I10], names_of rfl, Nat.le_of_ble_eq_true rfl⟩
  · intro Kst Kret x hS hR h
    exact Holds.eq (te10 cond Kst Kret ac nc mc tc vc gc wc an nn mn tn ag ng mg tg vg rc) (be10 ac nc mc tc vc gc wc an nn mn tn ag ng mg tg vg rc Kst Kret x hS hR h)
  · intro Kst Kret x hS hR s h
    cases s with
    | h0 x0 => exact Holds.eq (t10_0 cond Kst Kret ac nc mc tc vc gc wc an nn mn tn ag ng mg tg vg rc x0) (b10_0 ac nc mc tc vc gc wc an nn mn tn ag ng mg tg vg rc Kst Kret x hS hR x0 h)
    | h1 x0 x1 => exact Holds.eq (t10_1 cond Kst Kret ac nc mc tc vc gc wc an nn mn tn ag ng mg tg vg rc x0 x1) (b10_1 ac nc mc tc vc gc wc an nn mn tn ag ng mg tg vg rc Kst Kret x hS hR x0 x1 h)
noncomputable def k10 : Con := ⟨10, [.agg [.list [.str, .str, .int .i64, .bool], .list [.int .i64], .list [.int .i64, .int .i64], .plain (.int .i64)]], fun (x : ((Nat × Nat × Nat × (Nat → ByteArray) × (Nat → ByteArray) × (Nat → Int) × (Nat → Bool) × Unit) × (Nat × Nat × Nat × (Nat → Int) × Unit) × (Nat × Nat × Nat × (Nat → Int) × (Nat → Int) × Unit) × Int × Unit) × Unit) => (fun (ac nc mc : Nat) (tc : Nat → ByteArray) (vc : Nat → ByteArray) (gc : Nat → Int) (wc : Nat → Bool) (an nn mn : Nat) (tn : Nat → Int) (ag ng mg : Nat) (tg : Nat → Int) (vg : Nat → Int) (rc : Int) => decide (ac + nc ≤ mc ∧ an + nn ≤ mn ∧ ag + ng ≤ mg)) x.1.1.1 x.1.1.2.1 x.1.1.2.2.1 x.1.1.2.2.2.1 x.1.1.2.2.2.2.1 x.1.1.2.2.2.2.2.1 x.1.1.2.2.2.2.2.2.1 x.1.2.1.1 x.1.2.1.2.1 x.1.2.1.2.2.1 x.1.2.1.2.2.2.1 x.1.2.2.1.1 x.1.2.2.1.2.1 x.1.2.2.1.2.2.1 x.1.2.2.1.2.2.2.1 x.1.2.2.1.2.2.2.2.1 x.1.2.2.2.1, fun (x : ((Nat × Nat × Nat × (Nat → ByteArray) × (Nat → ByteArray) × (Nat → Int) × (Nat → Bool) × Unit) × (Nat × Nat × Nat × (Nat → Int) × Unit) × (Nat × Nat × Nat × (Nat → Int) × (Nat → Int) × Unit) × Int × Unit) × Unit) => (fun (ac nc mc : Nat) (tc : Nat → ByteArray) (vc : Nat → ByteArray) (gc : Nat → Int) (wc : Nat → Bool) (an nn mn : Nat) (tn : Nat → Int) (ag ng mg : Nat) (tg : Nat → Int) (vg : Nat → Int) (rc : Int) => (V10 ac nc mc tc vc gc wc an nn mn tn ag ng mg tg vg rc) (S.fewS nc (fun j => tc (j + ac)) (fun j => vc (j + ac)) nn (fun j => tn (j + an)) ng (S.ttE nc (fun j => tc (j + ac)) (fun j => vc (j + ac)) (fun j => gc (j + ac)) nn (fun j => tn (j + an)) ng (fun j => tg (j + ag)) (fun j => vg (j + ag)) rc))) x.1.1.1 x.1.1.2.1 x.1.1.2.2.1 x.1.1.2.2.2.1 x.1.1.2.2.2.2.1 x.1.1.2.2.2.2.2.1 x.1.1.2.2.2.2.2.2.1 x.1.2.1.1 x.1.2.1.2.1 x.1.2.1.2.2.1 x.1.2.1.2.2.2.1 x.1.2.2.1.1 x.1.2.2.1.2.1 x.1.2.2.1.2.2.1 x.1.2.2.1.2.2.2.1 x.1.2.2.1.2.2.2.2.1 x.1.2.2.2.1, fun (x : ((Nat × Nat × Nat × (Nat → ByteArray) × (Nat → ByteArray) × (Nat → Int) × (Nat → Bool) × Unit) × (Nat × Nat × Nat × (Nat → Int) × Unit) × (Nat × Nat × Nat × (Nat → Int) × (Nat → Int) × Unit) × Int × Unit) × Unit) => (fun (ac nc mc : Nat) (tc : Nat → ByteArray) (vc : Nat → ByteArray) (gc : Nat → Int) (wc : Nat → Bool) (an nn mn : Nat) (tn : Nat → Int) (ag ng mg : Nat) (tg : Nat → Int) (vg : Nat → Int) (rc : Int) => (N10 ac nc mc tc vc gc wc an nn mn tn ag ng mg tg vg rc) (S.fewS nc (fun j => tc (j + ac)) (fun j => vc (j + ac)) nn (fun j => tn (j + an)) ng (S.ttE nc (fun j => tc (j + ac)) (fun j => vc (j + ac)) (fun j => gc (j + ac)) nn (fun j => tn (j + an)) ng (fun j => tg (j + ag)) (fun j => vg (j + ag)) rc))) x.1.1.1 x.1.1.2.1 x.1.1.2.2.1 x.1.1.2.2.2.1 x.1.1.2.2.2.2.1 x.1.1.2.2.2.2.2.1 x.1.1.2.2.2.2.2.2.1 x.1.2.1.1 x.1.2.1.2.1 x.1.2.1.2.2.1 x.1.2.1.2.2.2.1 x.1.2.2.1.1 x.1.2.2.1.2.1 x.1.2.2.1.2.2.1 x.1.2.2.1.2.2.2.1 x.1.2.2.1.2.2.2.2.1 x.1.2.2.2.1, fun _ _ => .dead⟩
theorem s10b (ac nc mc : Nat) (tc : Nat → ByteArray) (vc : Nat → ByteArray) (gc : Nat → Int) (wc : Nat → Bool) (an nn mn : Nat) (tn : Nat → Int) (ag ng mg : Nat) (tg : Nat → Int) (vg : Nat → Int) (rc : Int) (hp : ac + nc ≤ mc ∧ an + nn ≤ mn ∧ ag + ng ≤ mg) (h10 : nn ≤ 10) : ∀ (k i : Nat) (x0 : Int), i + k = nn → Holds (x0 = S.sum100 (fun j => tn (j + an)) i) → Comes (q10 ac nc mc tc vc gc wc an nn mn tn ag ng mg tg vg rc) (.h1 x0 (i : Int)) (((S.ttE nc (fun j => tc (j + ac)) (fun j => vc (j + ac)) (fun j => gc (j + ac)) nn (fun j => tn (j + an)) ng (fun j => tg (j + ag)) (fun j => vg (j + ag)) rc) != 0) || decide (S.sum100 (fun j => tn (j + an)) nn ≤ 6)) := by
  intro k
  induction k with
  | zero =>
    intro i x0 hi ex
    obtain rfl : i = nn := by omega
    have ex := ex.get
    have hd : decide (ac + nc ≤ mc ∧ an + i ≤ mn ∧ ag + ng ≤ mg) = true := decide_eq_true hp
    apply Comes.of
    rw [q10]
    rw [hd]
    rw [← ex]
    generalize S.ttE nc (fun j => tc (j + ac)) (fun j => vc (j + ac)) (fun j => gc (j + ac)) i (fun j => tn (j + an)) ng (fun j => tg (j + ag)) (fun j => vg (j + ag)) rc = e at *
    refine goes_no (decide_eq_false (by omega)) ?_
    cases he : (e != 0)
    · cases hx : decide (x0 ≤ 6) <;> rfl
    · rfl
  | succ k ih =>
    intro i x0 hi ex
    have hb := sum100_b (t := (fun j => tn (j + an))) (i := i)
    have ih := ih (i + 1) (x0 + Min.min (Max.max (tn (i + an)) 0) 100) (by omega) ⟨by rw [ex.get]; rfl⟩
    rw [← ex.get] at hb
    clear ex
    obtain ⟨hp1, hp2, hp3⟩ := hp
    generalize (((S.ttE nc (fun j => tc (j + ac)) (fun j => vc (j + ac)) (fun j => gc (j + ac)) nn (fun j => tn (j + an)) ng (fun j => tg (j + ag)) (fun j => vg (j + ag)) rc) != 0) || decide (S.sum100 (fun j => tn (j + an)) nn ≤ 6)) = R at *
    have hy2 : 0 ≤ Min.min (Max.max (tn (i + an)) 0) 100 ∧ Min.min (Max.max (tn (i + an)) 0) 100 ≤ 100 := by omega
    apply Comes.of
    rw [q10]
    simp only [Int.toNat_natCast]
    repeat' first
      | ((with_reducible refine goes_ok ?_ ?_); focus (first | (rw [lim64]; apply decide_eq_true; omega) | (apply decide_eq_true; omega)))
    exact ih
theorem s10a (ac nc mc : Nat) (tc : Nat → ByteArray) (vc : Nat → ByteArray) (gc : Nat → Int) (wc : Nat → Bool) (an nn mn : Nat) (tn : Nat → Int) (ag ng mg : Nat) (tg : Nat → Int) (vg : Nat → Int) (rc : Int) (hp : ac + nc ≤ mc ∧ an + nn ≤ mn ∧ ag + ng ≤ mg) (R : Bool) (hR : S.any (fun j => decide (40 < (tc (j + ac)).size) || decide (40 < (vc (j + ac)).size)) nc = false → Comes (q10 ac nc mc tc vc gc wc an nn mn tn ag ng mg tg vg rc) (.h1 0 0) R) (hE : S.any (fun j => decide (40 < (tc (j + ac)).size) || decide (40 < (vc (j + ac)).size)) nc = true → false = R) (h10 : nc ≤ 10) : ∀ k i : Nat, i + k = nc → S.any (fun j => decide (40 < (tc (j + ac)).size) || decide (40 < (vc (j + ac)).size)) i = false → Comes (q10 ac nc mc tc vc gc wc an nn mn tn ag ng mg tg vg rc) (.h0 (i : Int)) R := by
  obtain ⟨hp1, hp2, hp3⟩ := hp
  intro k
  induction k with
  | zero =>
    intro i hi ha
    obtain rfl : i = nc := by omega
    have hR := hR ha
    apply Comes.of
    rw [q10]
    exact goes_no (decide_eq_false (by omega)) hR
  | succ k ih =>
    intro i hi ha
    by_cases hc : (tc (i + ac)).size ≤ 40 ∧ (vc (i + ac)).size ≤ 40
    · have ih := ih (i + 1) (by omega) (by rw [any_sc, ha, decide_eq_false (by omega), decide_eq_false (by omega)]; rfl)
      clear hR hE
      apply Comes.of
      show Goes _ _ _
      (first | rw [q10] | unfold q10)
      repeat' first
        | with_reducible refine goes_if (fun h => ?_) (fun h => ?_) <;> (try simp only [lim64, imp_false, decide_eq_true_eq, decide_eq_false_iff_not, Int.toNat_natCast, toNat_pred, toNat_succ, Option.getD_some, Option.getD_none, Bool.not_eq_true', Bool.not_eq_false', Bool.and_eq_true, Bool.or_eq_true, Bool.and_eq_false_iff, Bool.or_eq_false_iff, bne_iff_ne, beq_iff_eq, bne_eq_false_iff_eq, beq_eq_false_iff_ne, ne_eq, not_and, Int.not_le, Int.not_lt, ge_iff_le, gt_iff_lt, Nat.not_lt, Nat.not_le, Bool.not_eq_true, Bool.not_eq_false, Bool.true_eq_false, Bool.false_eq_true, not_false_eq_true, not_true_eq_false] at h)
        | exact goes_none.mpr (by omega)
      all_goals first | (exfalso; omega) | exact ih
    · have hE6 := hE (any_iff.mpr ⟨i, by omega, by rw [Bool.or_eq_true, decide_eq_true_eq, decide_eq_true_eq]; omega⟩)
      clear hR hE ih
      apply Comes.of
      show Goes _ _ _
      (first | rw [q10] | unfold q10)
      repeat' first
        | with_reducible refine goes_if (fun h => ?_) (fun h => ?_) <;> (try simp only [lim64, imp_false, decide_eq_true_eq, decide_eq_false_iff_not, Int.toNat_natCast, toNat_pred, toNat_succ, Option.getD_some, Option.getD_none, Bool.not_eq_true', Bool.not_eq_false', Bool.and_eq_true, Bool.or_eq_true, Bool.and_eq_false_iff, Bool.or_eq_false_iff, bne_iff_ne, beq_iff_eq, bne_eq_false_iff_eq, beq_eq_false_iff_ne, ne_eq, not_and, Int.not_le, Int.not_lt, ge_iff_le, gt_iff_lt, Nat.not_lt, Nat.not_le, Bool.not_eq_true, Bool.not_eq_false, Bool.true_eq_false, Bool.false_eq_true, not_false_eq_true, not_true_eq_false] at h)
        | exact goes_none.mpr (by omega)
      all_goals first | (exfalso; omega) | exact hE6
theorem s10 (ac nc mc : Nat) (tc : Nat → ByteArray) (vc : Nat → ByteArray) (gc : Nat → Int) (wc : Nat → Bool) (an nn mn : Nat) (tn : Nat → Int) (ag ng mg : Nat) (tg : Nat → Int) (vg : Nat → Int) (rc : Int) (hp : ac + nc ≤ mc ∧ an + nn ≤ mn ∧ ag + ng ≤ mg) : Goes ((q10 ac nc mc tc vc gc wc an nn mn tn ag ng mg tg vg rc)) ((p10 ac nc mc tc vc gc wc an nn mn tn ag ng mg tg vg rc)) (S.fewS nc (fun j => tc (j + ac)) (fun j => vc (j + ac)) nn (fun j => tn (j + an)) ng (S.ttE nc (fun j => tc (j + ac)) (fun j => vc (j + ac)) (fun j => gc (j + ac)) nn (fun j => tn (j + an)) ng (fun j => tg (j + ag)) (fun j => vg (j + ag)) rc)) := by
  unfold S.fewS
  by_cases h0 : 10 < nc ∨ 10 < nn ∨ 40 < ng
  · rw [if_pos h0]
    unfold p10
    refine goes_if (fun h => rfl) (fun h1 => ?_)
    refine goes_if (fun h => rfl) (fun h2 => ?_)
    refine goes_if (fun h => rfl) (fun h3 => ?_)
    simp only [lim64, imp_false, decide_eq_true_eq, decide_eq_false_iff_not, Int.toNat_natCast, toNat_pred, toNat_succ, Option.getD_some, Option.getD_none, Bool.not_eq_true', Bool.not_eq_false', Bool.and_eq_true, Bool.or_eq_true, Bool.and_eq_false_iff, Bool.or_eq_false_iff, bne_iff_ne, beq_iff_eq, bne_eq_false_iff_eq, beq_eq_false_iff_ne, ne_eq, not_and, Int.not_le, Int.not_lt, ge_iff_le, gt_iff_lt, Nat.not_lt, Nat.not_le, Bool.not_eq_true, Bool.not_eq_false, Bool.true_eq_false, Bool.false_eq_true, not_false_eq_true, not_true_eq_false] at h1 h2 h3
    exfalso; omega
  · rw [if_neg h0]
    unfold p10
    refine goes_no (decide_eq_false (by omega)) ?_
    refine goes_no (decide_eq_false (by omega)) ?_
    refine goes_no (decide_eq_false (by omega)) ?_
    refine s10a ac nc mc tc vc gc wc an nn mn tn ag ng mg tg vg rc hp _ (fun ha => ?_) (fun ha => by rw [if_pos ha]) (by omega) nc 0 (Nat.zero_add _) rfl
    rw [if_neg (by rw [ha]; exact Bool.false_ne_true)]
    exact s10b ac nc mc tc vc gc wc an nn mn tn ag ng mg tg vg rc hp (by omega) nn 0 0 (Nat.zero_add _) ⟨rfl⟩

theorem k10_ok : k10.ok Try.prog := by
  intro x hx
  obtain ⟨⟨⟨ac, nc, mc, tc, vc, gc, wc, _⟩, ⟨an, nn, mn, tn, _⟩, ⟨ag, ng, mg, tg, vg, _⟩, rc, _⟩, _⟩ := x
  obtain ⟨h1, h2⟩ := a10 ac nc mc tc vc gc wc an nn mn tn ag ng mg tg vg rc (s10 ac nc mc tc vc gc wc an nn mn tn ag ng mg tg vg rc (of_dec hx rfl))
  exact ⟨⟨400, (by decide : 3 + 1 + 0 ≤ 400), h1⟩, h2⟩

end Go.Ev
