/-
  Erases, in the reference.
-/
import Derived.Test.YtccojphjkaikeaaMA4
namespace Go.Ev
open Go.Proofs
set_option linter.unusedVariables false
set_option linter.unusedSimpArgs false
set_option maxRecDepth 100000
noncomputable def yB2 (test : Bool → Prop → Prop → Prop) : Ext := consX test [k45]
theorem yB2_ok : ExtOk Try.prog (yB2 cond) := consX_ok (l := [k45]) ⟨k45_ok, trivial⟩
inductive St35 where
  | h0 (x0 : Int)
  | h1 (x0 : Int) (x1 : Bool) (x2 : Int)
abbrev Rt35 := Bool × Int
noncomputable def V35 (ar nr mr : Nat) (tr : Nat → Int) (vr : Nat → Int) (gr : Nat → Int) (ao no mo : Nat) (to : Nat → Bool) (al nl ml : Nat) (tl : Nat → Int) (r : Rt35) : PV := PV.tup [PV.bool r.1, PV.int IntKind.i64 r.2]
noncomputable def N35 (ar nr mr : Nat) (tr : Nat → Int) (vr : Nat → Int) (gr : Nat → Int) (ao no mo : Nat) (to : Nat → Bool) (al nl ml : Nat) (tl : Nat → Int) (r : Rt35) : List Blk := []
noncomputable def I35 (ar nr mr : Nat) (tr : Nat → Int) (vr : Nat → Int) (gr : Nat → Int) (ao no mo : Nat) (to : Nat → Bool) (al nl ml : Nat) (tl : Nat → Int) : St35 → Hd
  | .h0 x0 => ⟨hd Try.f35 0, [PV.loose (PA.mk (2) (1) al (0)) nl,
 PV.ptr (PA.mk (3) (0) (0) (0)), PV.int IntKind.i64 x0,
 PV.unk, PV.unk], [[(3, (true, Blk.cells
 [PV.loose (PA.mk (0) (3) ar (0)) nr,
 PV.loose (PA.mk (1) (1) ao (0)) no]))], [(0, (false, .cols mr [.int .i64 tr, .int .i64 vr, .int .i64 gr])), (1, (false, .cols mo [.bool to])), (2, (false, .cols ml [.int .i64 tl]))]], 4⟩
  | .h1 x0 x1 x2 => ⟨hd Try.f35 1, [PV.loose (PA.mk (2) (1) al (0)) nl,
 PV.ptr (PA.mk (3) (0) (0) (0)), PV.int IntKind.i64 x0,
 PV.bool x1, PV.int IntKind.i64 x2], [[(3, (true, Blk.cells
 [PV.loose (PA.mk (0) (3) ar (0)) nr,
 PV.loose (PA.mk (1) (1) ao (0)) no]))], [(0, (false, .cols mr [.int .i64 tr, .int .i64 vr, .int .i64 gr])), (1, (false, .cols mo [.bool to])), (2, (false, .cols ml [.int .i64 tl]))]], 4⟩
noncomputable def q35 (ar nr mr : Nat) (tr : Nat → Int) (vr : Nat → Int) (gr : Nat → Int) (ao no mo : Nat) (to : Nat → Bool) (al nl ml : Nat) (tl : Nat → Int) : St35 → Option (St35 ⊕ Rt35)
  | .h0 x0 => bif (decide (x0 < (↑nr : Int)))
 then (some (.inl (.h1 (x0) (false) ((0 : Int)))))
 else (some (.inr (true, (0 : Int))))
  | .h1 x0 x1 x2 => bif (decide (x2 < (↑nl : Int)))
 then (bif (x1)
 then (bif (lim IntKind.i64 (x2 + (1 : Int)))
 then (some (.inl (.h1 (x0) (true) (x2 + (1 : Int)))))
 else (none))
 else (bif (decide ((0 : Int) ≤ x2 ∧ x2 < (↑nl : Int)))
 then (bif (decide (Int.toNat x2 + al < ml))
 then (bif (decide ((0 : Int) ≤ x0 ∧ x0 < (↑nr : Int)))
 then (bif (decide (Int.toNat x0 + ar < mr))
 then (bif (decide (tl (Int.toNat x2 + al) ≥ tr (Int.toNat x0 + ar)))
 then (bif (lim IntKind.i64 (x2 + (1 : Int)))
 then (some (.inl (.h1 (x0) (true) (x2 + (1 : Int)))))
 else (none))
 else (bif (decide (tl (Int.toNat x2 + al) ≤ vr (Int.toNat x0 + ar)))
 then (bif (lim IntKind.i64 (x2 + (1 : Int)))
 then (some (.inl (.h1 (x0) (true) (x2 + (1 : Int)))))
 else (none))
 else (bif (lim IntKind.i64 (x2 + (1 : Int)))
 then (some (.inl (.h1 (x0) (false) (x2 + (1 : Int)))))
 else (none))))
 else (none))
 else (none))
 else (none))
 else (none)))
 else (bif (x1)
 then (bif (lim IntKind.i64 (x0 + (1 : Int)))
 then (some (.inl (.h0 (x0 + (1 : Int)))))
 else (none))
 else (some (.inr (false, (0 : Int)))))
noncomputable def p35 (ar nr mr : Nat) (tr : Nat → Int) (vr : Nat → Int) (gr : Nat → Int) (ao no mo : Nat) (to : Nat → Bool) (al nl ml : Nat) (tl : Nat → Int) : Option (St35 ⊕ Rt35) := bif (decide (ar + nr ≤ mr ∧ nr ≤ 1000000 ∧ al + nl ≤ ml ∧ nl ≤ 1000000))
 then (bif ((S.histE nr (fun (j : Nat) => tr (j + ar)) (fun (j : Nat) => vr (j + ar)) (fun (j : Nat) => gr (j + ar)) no nl
 fun (j : Nat) => tl (j + al)) !=
 (0 : Int))
 then (some (.inr (false, S.histE nr (fun (j : Nat) => tr (j + ar)) (fun (j : Nat) => vr (j + ar)) (fun (j : Nat) => gr (j + ar)) no nl
 fun (j : Nat) => tl (j + al))))
 else (some (.inl (.h0 ((0 : Int))))))
 else (none)
noncomputable def Te35 (test : Bool → Prop → Prop → Prop) (Kst : KS) (Kret : KR) (ar nr mr : Nat) (tr : Nat → Int) (vr : Nat → Int) (gr : Nat → Int) (ao no mo : Nat) (to : Nat → Bool) (al nl ml : Nat) (tl : Nat → Int) : Prop :=
  test (decide (ar + nr ≤ mr ∧ nr ≤ 1000000 ∧ al + nl ≤ ml ∧ nl ≤ 1000000))
 (test ((S.histE nr (fun (j : Nat) => tr (j + ar)) (fun (j : Nat) => vr (j + ar)) (fun (j : Nat) => gr (j + ar)) no nl
 fun (j : Nat) => tl (j + al)) !=
 (0 : Int))
 (Kret (PV.tup
 [PV.tf false,
 PV.int IntKind.i64
 (S.histE nr (fun (j : Nat) => tr (j + ar)) (fun (j : Nat) => vr (j + ar)) (fun (j : Nat) => gr (j + ar)) no
 nl fun (j : Nat) => tl (j + al))]) ([[(2, false, Blk.cols ml [Col.int IntKind.i64 tl]),
 (1, false, Blk.cols mo [Col.bool to]),
 (0, false,
 Blk.cols mr
 [Col.int IntKind.i64 tr, Col.int IntKind.i64 vr, Col.int IntKind.i64 gr])]]) (5))
 (Kst (hd Try.f35 0) ([PV.loose (PA.mk (2) (1) al (0)) nl,
 PV.ptr (PA.mk (3) (0) (0) (0)), PV.int IntKind.i64 (0 : Int),
 PV.unk, PV.unk]) ([[(2, false, Blk.cols ml [Col.int IntKind.i64 tl]),
 (1, false, Blk.cols mo [Col.bool to]),
 (0, false,
 Blk.cols mr
 [Col.int IntKind.i64 tr, Col.int IntKind.i64 vr, Col.int IntKind.i64 gr]),
 (3, true,
 Blk.cells
 [PV.loose (PA.mk (0) (3) ar (0)) nr,
 PV.loose (PA.mk (1) (1) ao (0)) no])]]) (5)))
 (False)
set_option maxRecDepth 100000 in
theorem te35 (test : Bool → Prop → Prop → Prop) (Kst : KS) (Kret : KR) (ar nr mr : Nat) (tr : Nat → Int) (vr : Nat → Int) (gr : Nat → Int) (ao no mo : Nat) (to : Nat → Bool) (al nl ml : Nat) (tl : Nat → Int) : run test Try.env true (yB2 test) true 400 ⟨35, [.cd (mkFn Try.f35).body], argT 0 [.agg [.loose ⟨0, 3, ar, 0⟩ nr, .loose ⟨1, 1, ao, 0⟩ no], .loose ⟨2, 1, al, 0⟩ nl], [[], [(0, (false, .cols mr [.int .i64 tr, .int .i64 vr, .int .i64 gr])), (1, (false, .cols mo [.bool to])), (2, (false, .cols ml [.int .i64 tl]))]], 3⟩ (proj 3 [1, 2, 7, 8, 9] Kst Kret) =
  Te35 test Kst Kret ar nr mr tr vr gr ao no mo to al nl ml tl := by kernel_rfl
noncomputable def T35_0 (test : Bool → Prop → Prop → Prop) (Kst : KS) (Kret : KR) (ar nr mr : Nat) (tr : Nat → Int) (vr : Nat → Int) (gr : Nat → Int) (ao no mo : Nat) (to : Nat → Bool) (al nl ml : Nat) (tl : Nat → Int) (x0 : Int) : Prop :=
  test (decide (x0 < (↑nr : Int)))
 (Kst (hd Try.f35 1) ([PV.loose (PA.mk (2) (1) al (0)) nl,
 PV.ptr (PA.mk (3) (0) (0) (0)), PV.int IntKind.i64 x0,
 PV.tf false, PV.int IntKind.i64 (0 : Int)]) ([[(2, false, Blk.cols ml [Col.int IntKind.i64 tl]),
 (1, false, Blk.cols mo [Col.bool to]),
 (0, false,
 Blk.cols mr
 [Col.int IntKind.i64 tr, Col.int IntKind.i64 vr, Col.int IntKind.i64 gr]),
 (3, true,
 Blk.cells
 [PV.loose (PA.mk (0) (3) ar (0)) nr,
 PV.loose (PA.mk (1) (1) ao (0)) no])]]) (4))
 (Kret (PV.tup [PV.tf true, PV.int IntKind.i64 (0 : Int)]) ([[(2, false, Blk.cols ml [Col.int IntKind.i64 tl]),
 (1, false, Blk.cols mo [Col.bool to]),
 (0, false,
 Blk.cols mr
 [Col.int IntKind.i64 tr, Col.int IntKind.i64 vr, Col.int IntKind.i64 gr])]]) (4))
set_option maxRecDepth 100000 in
theorem t35_0 (test : Bool → Prop → Prop → Prop) (Kst : KS) (Kret : KR) (ar nr mr : Nat) (tr : Nat → Int) (vr : Nat → Int) (gr : Nat → Int) (ao no mo : Nat) (to : Nat → Bool) (al nl ml : Nat) (tl : Nat → Int) (x0 : Int) : run test Try.env true (yB2 test) true 400 ⟨35, hd Try.f35 0, zipT [1, 2, 7, 8, 9] [PV.loose (PA.mk (2) (1) al (0)) nl,
 PV.ptr (PA.mk (3) (0) (0) (0)), PV.int IntKind.i64 x0,
 PV.unk, PV.unk], [[(3, (true, Blk.cells
 [PV.loose (PA.mk (0) (3) ar (0)) nr,
 PV.loose (PA.mk (1) (1) ao (0)) no]))], [(0, (false, .cols mr [.int .i64 tr, .int .i64 vr, .int .i64 gr])), (1, (false, .cols mo [.bool to])), (2, (false, .cols ml [.int .i64 tl]))]], 4⟩ (proj 3 [1, 2, 7, 8, 9] Kst Kret) =
  T35_0 test Kst Kret ar nr mr tr vr gr ao no mo to al nl ml tl x0 := by kernel_rfl
noncomputable def T35_1 (test : Bool → Prop → Prop → Prop) (Kst : KS) (Kret : KR) (ar nr mr : Nat) (tr : Nat → Int) (vr : Nat → Int) (gr : Nat → Int) (ao no mo : Nat) (to : Nat → Bool) (al nl ml : Nat) (tl : Nat → Int) (x0 : Int) (x1 : Bool) (x2 : Int) : Prop :=
  test (decide (x2 < (↑nl : Int)))
 (test (x1)
 (test (lim IntKind.i64 (x2 + (1 : Int)))
 (Kst (hd Try.f35 1) ([PV.loose (PA.mk (2) (1) al (0)) nl,
 PV.ptr (PA.mk (3) (0) (0) (0)), PV.int IntKind.i64 x0,
 PV.tf true, PV.int IntKind.i64 (x2 + (1 : Int))]) ([[(2, false, Blk.cols ml [Col.int IntKind.i64 tl]),
 (1, false, Blk.cols mo [Col.bool to]),
 (0, false,
 Blk.cols mr
 [Col.int IntKind.i64 tr, Col.int IntKind.i64 vr, Col.int IntKind.i64 gr]),
 (3, true,
 Blk.cells
 [PV.loose (PA.mk (0) (3) ar (0)) nr,
 PV.loose (PA.mk (1) (1) ao (0)) no])]]) (4))
 (False))
 (test (decide ((0 : Int) ≤ x2 ∧ x2 < (↑nl : Int)))
 (test (decide (Int.toNat x2 + al < ml))
 (test (decide ((0 : Int) ≤ x0 ∧ x0 < (↑nr : Int)))
 (test (decide (Int.toNat x0 + ar < mr))
 (test (decide (tl (Int.toNat x2 + al) ≥ tr (Int.toNat x0 + ar)))
 (test (lim IntKind.i64 (x2 + (1 : Int)))
 (Kst (hd Try.f35 1) ([PV.loose (PA.mk (2) (1) al (0)) nl,
 PV.ptr (PA.mk (3) (0) (0) (0)), PV.int IntKind.i64 x0,
 PV.tf true, PV.int IntKind.i64 (x2 + (1 : Int))]) ([[(2, false, Blk.cols ml [Col.int IntKind.i64 tl]),
 (1, false, Blk.cols mo [Col.bool to]),
 (0, false,
 Blk.cols mr
 [Col.int IntKind.i64 tr, Col.int IntKind.i64 vr, Col.int IntKind.i64 gr]),
 (3, true,
 Blk.cells
 [PV.loose (PA.mk (0) (3) ar (0)) nr,
 PV.loose (PA.mk (1) (1) ao (0)) no])]]) (4))
 (False))
 (test (decide ((0 : Int) ≤ x2 ∧ x2 < (↑nl : Int)))
 (test (decide (Int.toNat x2 + al < ml))
 (test (decide ((0 : Int) ≤ x0 ∧ x0 < (↑nr : Int)))
 (test (decide (Int.toNat x0 + ar < mr))
 (test (decide (tl (Int.toNat x2 + al) ≤ vr (Int.toNat x0 + ar)))
 (test (lim IntKind.i64 (x2 + (1 : Int)))
 (Kst (hd Try.f35 1) ([PV.loose (PA.mk (2) (1) al (0)) nl,
 PV.ptr (PA.mk (3) (0) (0) (0)), PV.int IntKind.i64 x0,
 PV.tf true, PV.int IntKind.i64 (x2 + (1 : Int))]) ([[(2, false, Blk.cols ml [Col.int IntKind.i64 tl]),
 (1, false, Blk.cols mo [Col.bool to]),
 (0, false,
 Blk.cols mr
 [Col.int IntKind.i64 tr, Col.int IntKind.i64 vr, Col.int IntKind.i64 gr]),
 (3, true,
 Blk.cells
 [PV.loose (PA.mk (0) (3) ar (0)) nr,
 PV.loose (PA.mk (1) (1) ao (0)) no])]]) (4))
 (False))
 (test (lim IntKind.i64 (x2 + (1 : Int)))
 (Kst (hd Try.f35 1) ([PV.loose (PA.mk (2) (1) al (0)) nl,
 PV.ptr (PA.mk (3) (0) (0) (0)), PV.int IntKind.i64 x0,
 PV.tf false, PV.int IntKind.i64 (x2 + (1 : Int))]) ([[(2, false, Blk.cols ml [Col.int IntKind.i64 tl]),
 (1, false, Blk.cols mo [Col.bool to]),
 (0, false,
 Blk.cols mr
 [Col.int IntKind.i64 tr, Col.int IntKind.i64 vr, Col.int IntKind.i64 gr]),
 (3, true,
 Blk.cells
 [PV.loose (PA.mk (0) (3) ar (0)) nr,
 PV.loose (PA.mk (1) (1) ao (0)) no])]]) (4))
 (False)))
 (False))
 (False))
 (False))
 (False)))
 (False))
 (False))
 (False))
 (False)))
 (test (x1)
 (test (lim IntKind.i64 (x0 + (1 : Int)))
 (Kst (hd Try.f35 0) ([PV.loose (PA.mk (2) (1) al (0)) nl,
 PV.ptr (PA.mk (3) (0) (0) (0)),
 PV.int IntKind.i64 (x0 + (1 : Int)), PV.bool x1, PV.int IntKind.i64 x2]) ([[(2, false, Blk.cols ml [Col.int IntKind.i64 tl]),
 (1, false, Blk.cols mo [Col.bool to]),
 (0, false,
 Blk.cols mr
 [Col.int IntKind.i64 tr, Col.int IntKind.i64 vr, Col.int IntKind.i64 gr]),
 (3, true,
 Blk.cells
 [PV.loose (PA.mk (0) (3) ar (0)) nr,
 PV.loose (PA.mk (1) (1) ao (0)) no])]]) (4))
 (False))
 (Kret (PV.tup [PV.tf false, PV.int IntKind.i64 (0 : Int)]) ([[(2, false, Blk.cols ml [Col.int IntKind.i64 tl]),
 (1, false, Blk.cols mo [Col.bool to]),
 (0, false,
 Blk.cols mr
 [Col.int IntKind.i64 tr, Col.int IntKind.i64 vr, Col.int IntKind.i64 gr])]]) (4)))
set_option maxRecDepth 100000 in
theorem t35_1 (test : Bool → Prop → Prop → Prop) (Kst : KS) (Kret : KR) (ar nr mr : Nat) (tr : Nat → Int) (vr : Nat → Int) (gr : Nat → Int) (ao no mo : Nat) (to : Nat → Bool) (al nl ml : Nat) (tl : Nat → Int) (x0 : Int) (x1 : Bool) (x2 : Int) : run test Try.env true (yB2 test) true 400 ⟨35, hd Try.f35 1, zipT [1, 2, 7, 8, 9] [PV.loose (PA.mk (2) (1) al (0)) nl,
 PV.ptr (PA.mk (3) (0) (0) (0)), PV.int IntKind.i64 x0,
 PV.bool x1, PV.int IntKind.i64 x2], [[(3, (true, Blk.cells
 [PV.loose (PA.mk (0) (3) ar (0)) nr,
 PV.loose (PA.mk (1) (1) ao (0)) no]))], [(0, (false, .cols mr [.int .i64 tr, .int .i64 vr, .int .i64 gr])), (1, (false, .cols mo [.bool to])), (2, (false, .cols ml [.int .i64 tl]))]], 4⟩ (proj 3 [1, 2, 7, 8, 9] Kst Kret) =
  T35_1 test Kst Kret ar nr mr tr vr gr ao no mo to al nl ml tl x0 x1 x2 := by kernel_rfl
set_option maxRecDepth 100000 in
theorem be35 (ar nr mr : Nat) (tr : Nat → Int) (vr : Nat → Int) (gr : Nat → Int) (ao no mo : Nat) (to : Nat → Bool) (al nl ml : Nat) (tl : Nat → Int) (Kst : KS) (Kret : KR) (x : St35 ⊕ Rt35) (hS : HS 3 400 ((I35 ar nr mr tr vr gr ao no mo to al nl ml tl)) Kst x) (hR : HR 3 400 ((V35 ar nr mr tr vr gr ao no mo to al nl ml tl)) (fun r => [newL (3 + 1) ((N35 ar nr mr tr vr gr ao no mo to al nl ml tl) r) ++ [(0, (false, .cols mr [.int .i64 tr, .int .i64 vr, .int .i64 gr])), (1, (false, .cols mo [.bool to])), (2, (false, .cols ml [.int .i64 tl]))]]) Kret x) (h : (bif (decide (ar + nr ≤ mr ∧ nr ≤ 1000000 ∧ al + nl ≤ ml ∧ nl ≤ 1000000))
 then (bif ((S.histE nr (fun (j : Nat) => tr (j + ar)) (fun (j : Nat) => vr (j + ar)) (fun (j : Nat) => gr (j + ar)) no nl
 fun (j : Nat) => tl (j + al)) !=
 (0 : Int))
 then (some (.inr (false, S.histE nr (fun (j : Nat) => tr (j + ar)) (fun (j : Nat) => vr (j + ar)) (fun (j : Nat) => gr (j + ar)) no nl
 fun (j : Nat) => tl (j + al))))
 else (some (.inl (.h0 ((0 : Int))))))
 else (none) : Option (St35 ⊕ Rt35)) = some x) : Te35 cond Kst Kret ar nr mr tr vr gr ao no mo to al nl ml tl := by
  unfold Te35
  exact bif_split h
   (fun c0 h => bif_split h
   (fun c1 h => ret_at hR _ h (fun n => n) rfl rfl rfl (rn_tup ⟨(rn_bool_tf rfl), (rn_int rfl), trivial⟩) rfl (entl_bor (use_lo rfl) rfl rfl (entl_bor (use_lo rfl) rfl rfl (entl_bor (use_lo rfl) rfl rfl entl_nil))))
   (fun c1 h => stop_at hS _ h (fun n => bif Nat.beq n 3 then 3 else n) rfl rfl rfl ⟨(rn_loose (use_lo rfl) rfl rfl rfl), ⟨(rn_ptr (use_own rfl) rfl rfl), ⟨(rn_int rfl), ⟨(rn_unk _), ⟨(rn_unk _), trivial⟩⟩⟩⟩⟩ rfl (entl_b (use_own rfl) rfl (by simp) (rb_cells ⟨(rn_loose (use_lo rfl) rfl rfl rfl), (rn_loose (use_lo rfl) rfl rfl rfl), trivial⟩) (entl_bor (use_lo rfl) rfl rfl (entl_bor (use_lo rfl) rfl rfl (entl_bor (use_lo rfl) rfl rfl entl_nil))))))
   (fun c0 h => no_some h)
set_option maxRecDepth 100000 in
theorem b35_0 (ar nr mr : Nat) (tr : Nat → Int) (vr : Nat → Int) (gr : Nat → Int) (ao no mo : Nat) (to : Nat → Bool) (al nl ml : Nat) (tl : Nat → Int) (Kst : KS) (Kret : KR) (x : St35 ⊕ Rt35) (hS : HS 3 400 ((I35 ar nr mr tr vr gr ao no mo to al nl ml tl)) Kst x) (hR : HR 3 400 ((V35 ar nr mr tr vr gr ao no mo to al nl ml tl)) (fun r => [newL (3 + 1) ((N35 ar nr mr tr vr gr ao no mo to al nl ml tl) r) ++ [(0, (false, .cols mr [.int .i64 tr, .int .i64 vr, .int .i64 gr])), (1, (false, .cols mo [.bool to])), (2, (false, .cols ml [.int .i64 tl]))]]) Kret x) (x0 : Int) (h : (bif (decide (x0 < (↑nr : Int)))
 then (some (.inl (.h1 (x0) (false) ((0 : Int)))))
 else (some (.inr (true, (0 : Int)))) : Option (St35 ⊕ Rt35)) = some x) : T35_0 cond Kst Kret ar nr mr tr vr gr ao no mo to al nl ml tl x0 := by
  unfold T35_0
  exact bif_split h
   (fun c0 h => stop_at hS _ h (fun n => bif Nat.beq n 3 then 3 else n) rfl rfl rfl ⟨(rn_loose (use_lo rfl) rfl rfl rfl), ⟨(rn_ptr (use_own rfl) rfl rfl), ⟨(rn_int rfl), ⟨(rn_bool_tf rfl), ⟨(rn_int rfl), trivial⟩⟩⟩⟩⟩ rfl (entl_b (use_own rfl) rfl (by simp) (rb_cells ⟨(rn_loose (use_lo rfl) rfl rfl rfl), (rn_loose (use_lo rfl) rfl rfl rfl), trivial⟩) (entl_bor (use_lo rfl) rfl rfl (entl_bor (use_lo rfl) rfl rfl (entl_bor (use_lo rfl) rfl rfl entl_nil)))))
   (fun c0 h => ret_at hR _ h (fun n => n) rfl rfl rfl (rn_tup ⟨(rn_bool_tf rfl), (rn_int rfl), trivial⟩) rfl (entl_bor (use_lo rfl) rfl rfl (entl_bor (use_lo rfl) rfl rfl (entl_bor (use_lo rfl) rfl rfl entl_nil))))
set_option maxRecDepth 100000 in
theorem b35_1 (ar nr mr : Nat) (tr : Nat → Int) (vr : Nat → Int) (gr : Nat → Int) (ao no mo : Nat) (to : Nat → Bool) (al nl ml : Nat) (tl : Nat → Int) (Kst : KS) (Kret : KR) (x : St35 ⊕ Rt35) (hS : HS 3 400 ((I35 ar nr mr tr vr gr ao no mo to al nl ml tl)) Kst x) (hR : HR 3 400 ((V35 ar nr mr tr vr gr ao no mo to al nl ml tl)) (fun r => [newL (3 + 1) ((N35 ar nr mr tr vr gr ao no mo to al nl ml tl) r) ++ [(0, (false, .cols mr [.int .i64 tr, .int .i64 vr, .int .i64 gr])), (1, (false, .cols mo [.bool to])), (2, (false, .cols ml [.int .i64 tl]))]]) Kret x) (x0 : Int) (x1 : Bool) (x2 : Int) (h : (bif (decide (x2 < (↑nl : Int)))
 then (bif (x1)
 then (bif (lim IntKind.i64 (x2 + (1 : Int)))
 then (some (.inl (.h1 (x0) (true) (x2 + (1 : Int)))))
 else (none))
 else (bif (decide ((0 : Int) ≤ x2 ∧ x2 < (↑nl : Int)))
 then (bif (decide (Int.toNat x2 + al < ml))
 then (bif (decide ((0 : Int) ≤ x0 ∧ x0 < (↑nr : Int)))
 then (bif (decide (Int.toNat x0 + ar < mr))
 then (bif (decide (tl (Int.toNat x2 + al) ≥ tr (Int.toNat x0 + ar)))
 then (bif (lim IntKind.i64 (x2 + (1 : Int)))
 then (some (.inl (.h1 (x0) (true) (x2 + (1 : Int)))))
 else (none))
 else (bif (decide (tl (Int.toNat x2 + al) ≤ vr (Int.toNat x0 + ar)))
 then (bif (lim IntKind.i64 (x2 + (1 : Int)))
 then (some (.inl (.h1 (x0) (true) (x2 + (1 : Int)))))
 else (none))
 else (bif (lim IntKind.i64 (x2 + (1 : Int)))
 then (some (.inl (.h1 (x0) (false) (x2 + (1 : Int)))))
 else (none))))
 else (none))
 else (none))
 else (none))
 else (none)))
 else (bif (x1)
 then (bif (lim IntKind.i64 (x0 + (1 : Int)))
 then (some (.inl (.h0 (x0 + (1 : Int)))))
 else (none))
 else (some (.inr (false, (0 : Int))))) : Option (St35 ⊕ Rt35)) = some x) : T35_1 cond Kst Kret ar nr mr tr vr gr ao no mo to al nl ml tl x0 x1 x2 := by
  unfold T35_1
  exact bif_split h
   (fun c0 h => bif_split h
   (fun c1 h => bif_split h
   (fun c2 h => stop_at hS _ h (fun n => bif Nat.beq n 3 then 3 else n) rfl rfl rfl ⟨(rn_loose (use_lo rfl) rfl rfl rfl), ⟨(rn_ptr (use_own rfl) rfl rfl), ⟨(rn_int rfl), ⟨(rn_bool_tf rfl), ⟨(rn_int rfl), trivial⟩⟩⟩⟩⟩ rfl (entl_b (use_own rfl) rfl (by simp) (rb_cells ⟨(rn_loose (use_lo rfl) rfl rfl rfl), (rn_loose (use_lo rfl) rfl rfl rfl), trivial⟩) (entl_bor (use_lo rfl) rfl rfl (entl_bor (use_lo rfl) rfl rfl (entl_bor (use_lo rfl) rfl rfl entl_nil)))))
   (fun c2 h => no_some h))
   (fun c1 h => bif_split h
   (fun c2 h => bif_split h
   (fun c3 h => bif_split h
   (fun c4 h => bif_split h
   (fun c5 h => bif_split h
   (fun c6 h => bif_split h
   (fun c7 h => stop_at hS _ h (fun n => bif Nat.beq n 3 then 3 else n) rfl rfl rfl ⟨(rn_loose (use_lo rfl) rfl rfl rfl), ⟨(rn_ptr (use_own rfl) rfl rfl), ⟨(rn_int rfl), ⟨(rn_bool_tf rfl), ⟨(rn_int rfl), trivial⟩⟩⟩⟩⟩ rfl (entl_b (use_own rfl) rfl (by simp) (rb_cells ⟨(rn_loose (use_lo rfl) rfl rfl rfl), (rn_loose (use_lo rfl) rfl rfl rfl), trivial⟩) (entl_bor (use_lo rfl) rfl rfl (entl_bor (use_lo rfl) rfl rfl (entl_bor (use_lo rfl) rfl rfl entl_nil)))))
   (fun c7 h => no_some h))
   (fun c6 h => cond_yes c2 (cond_yes c3 (cond_yes c4 (cond_yes c5 (bif_split h
   (fun c7 h => bif_split h
   (fun c8 h => stop_at hS _ h (fun n => bif Nat.beq n 3 then 3 else n) rfl rfl rfl ⟨(rn_loose (use_lo rfl) rfl rfl rfl), ⟨(rn_ptr (use_own rfl) rfl rfl), ⟨(rn_int rfl), ⟨(rn_bool_tf rfl), ⟨(rn_int rfl), trivial⟩⟩⟩⟩⟩ rfl (entl_b (use_own rfl) rfl (by simp) (rb_cells ⟨(rn_loose (use_lo rfl) rfl rfl rfl), (rn_loose (use_lo rfl) rfl rfl rfl), trivial⟩) (entl_bor (use_lo rfl) rfl rfl (entl_bor (use_lo rfl) rfl rfl (entl_bor (use_lo rfl) rfl rfl entl_nil)))))
   (fun c8 h => no_some h))
   (fun c7 h => bif_split h
   (fun c8 h => stop_at hS _ h (fun n => bif Nat.beq n 3 then 3 else n) rfl rfl rfl ⟨(rn_loose (use_lo rfl) rfl rfl rfl), ⟨(rn_ptr (use_own rfl) rfl rfl), ⟨(rn_int rfl), ⟨(rn_bool_tf rfl), ⟨(rn_int rfl), trivial⟩⟩⟩⟩⟩ rfl (entl_b (use_own rfl) rfl (by simp) (rb_cells ⟨(rn_loose (use_lo rfl) rfl rfl rfl), (rn_loose (use_lo rfl) rfl rfl rfl), trivial⟩) (entl_bor (use_lo rfl) rfl rfl (entl_bor (use_lo rfl) rfl rfl (entl_bor (use_lo rfl) rfl rfl entl_nil)))))
   (fun c8 h => no_some h))))))))
   (fun c5 h => no_some h))
   (fun c4 h => no_some h))
   (fun c3 h => no_some h))
   (fun c2 h => no_some h)))
   (fun c0 h => bif_split h
   (fun c1 h => bif_split h
   (fun c2 h => stop_at hS _ h (fun n => bif Nat.beq n 3 then 3 else n) rfl rfl rfl ⟨(rn_loose (use_lo rfl) rfl rfl rfl), ⟨(rn_ptr (use_own rfl) rfl rfl), ⟨(rn_int rfl), ⟨(rn_unk _), ⟨(rn_unk _), trivial⟩⟩⟩⟩⟩ rfl (entl_b (use_own rfl) rfl (by simp) (rb_cells ⟨(rn_loose (use_lo rfl) rfl rfl rfl), (rn_loose (use_lo rfl) rfl rfl rfl), trivial⟩) (entl_bor (use_lo rfl) rfl rfl (entl_bor (use_lo rfl) rfl rfl (entl_bor (use_lo rfl) rfl rfl entl_nil)))))
   (fun c2 h => no_some h))
   (fun c1 h => ret_at hR _ h (fun n => n) rfl rfl rfl (rn_tup ⟨(rn_bool_tf rfl), (rn_int rfl), trivial⟩) rfl (entl_bor (use_lo rfl) rfl rfl (entl_bor (use_lo rfl) rfl rfl (entl_bor (use_lo rfl) rfl rfl entl_nil)))))
theorem a35 (ar nr mr : Nat) (tr : Nat → Int) (vr : Nat → Int) (gr : Nat → Int) (ao no mo : Nat) (to : Nat → Bool) (al nl ml : Nat) (tl : Nat → Int) {r : Rt35} (h : Goes ((q35 ar nr mr tr vr gr ao no mo to al nl ml tl)) ((p35 ar nr mr tr vr gr ao no mo to al nl ml tl)) r) : CallR Try.prog 35 [.agg [.loose ⟨0, 3, ar, 0⟩ nr, .loose ⟨1, 1, ao, 0⟩ no], .loose ⟨2, 1, al, 0⟩ nl] [[(0, (false, .cols mr [.int .i64 tr, .int .i64 vr, .int .i64 gr])), (1, (false, .cols mo [.bool to])), (2, (false, .cols ml [.int .i64 tl]))]] 3 ((V35 ar nr mr tr vr gr ao no mo to al nl ml tl) r) ((fun r => [newL (3 + 1) ((N35 ar nr mr tr vr gr ao no mo to al nl ml tl) r) ++ [(0, (false, .cols mr [.int .i64 tr, .int .i64 vr, .int .i64 gr])), (1, (false, .cols mo [.bool to])), (2, (false, .cols ml [.int .i64 tl]))]]) r) 400 ∧ ∃ F, Try.prog.funcs[35]? = some F ∧ F.body.isSome = true ∧ (F.name == "runtime.NumGoroutine") = false := by
  refine dec_calls (f := 35) (lo := 3) (hi := 400) (H := [[(0, (false, .cols mr [.int .i64 tr, .int .i64 vr, .int .i64 gr])), (1, (false, .cols mo [.bool to])), (2, (false, .cols ml [.int .i64 tl]))]]) (args := [.agg [.loose ⟨0, 3, ar, 0⟩ nr, .loose ⟨1, 1, ao, 0⟩ no], .loose ⟨2, 1, al, 0⟩ nl]) Try.envOk Try.mixed yB2_ok ((I35 ar nr mr tr vr gr ao no mo to al nl ml tl)) ((V35 ar nr mr tr vr gr ao no mo to al nl ml tl)) (fun r => [newL (3 + 1) ((N35 ar nr mr tr vr gr ao no mo to al nl ml tl) r) ++ [(0, (false, .cols mr [.int .i64 tr, .int .i64 vr, .int .i64 gr])), (1, (false, .cols mo [.bool to])), (2, (false, .cols ml [.int .i64 tl]))]]) (fn := mkFn Try.f35) (ts := [1, 2, 7, 8, 9]) (n := 400) rfl (by decide) (by simp) (names_of rfl) ?_ ?_ ?_ h
  · intro s; cases s <;> exact ⟨hd_ok _ _, by simp [I35], names_of rfl, Nat.le_of_ble_eq_true rfl⟩
  · intro Kst Kret x hS hR h
    exact Holds.eq (te35 cond Kst Kret ar nr mr tr vr gr ao no mo to al nl ml tl) (be35 ar nr mr tr vr gr ao no mo to al nl ml tl Kst Kret x hS hR h)
  · intro Kst Kret x hS hR s h
    cases s with
    | h0 x0 => exact Holds.eq (t35_0 cond Kst Kret ar nr mr tr vr gr ao no mo to al nl ml tl x0) (b35_0 ar nr mr tr vr gr ao no mo to al nl ml tl Kst Kret x hS hR x0 h)
    | h1 x0 x1 x2 => exact Holds.eq (t35_1 cond Kst Kret ar nr mr tr vr gr ao no mo to al nl ml tl x0 x1 x2) (b35_1 ar nr mr tr vr gr ao no mo to al nl ml tl Kst Kret x hS hR x0 x1 x2 h)
noncomputable def k35 : Con := ⟨35, [.agg [.list [.int .i64, .int .i64, .int .i64], .list [.bool]], .one (.list [.int .i64])], fun (x : ((Nat × Nat × Nat × (Nat → Int) × (Nat → Int) × (Nat → Int) × Unit) × (Nat × Nat × Nat × (Nat → Bool) × Unit) × Unit) × (Nat × Nat × Nat × (Nat → Int) × Unit) × Unit) => (fun (ar nr mr : Nat) (tr : Nat → Int) (vr : Nat → Int) (gr : Nat → Int) (ao no mo : Nat) (to : Nat → Bool) (al nl ml : Nat) (tl : Nat → Int) => decide (ar + nr ≤ mr ∧ nr ≤ 1000000 ∧ ao + no ≤ mo ∧ no ≤ 1000000 ∧ al + nl ≤ ml ∧ nl ≤ 1000000)) x.1.1.1 x.1.1.2.1 x.1.1.2.2.1 x.1.1.2.2.2.1 x.1.1.2.2.2.2.1 x.1.1.2.2.2.2.2.1 x.1.2.1.1 x.1.2.1.2.1 x.1.2.1.2.2.1 x.1.2.1.2.2.2.1 x.2.1.1 x.2.1.2.1 x.2.1.2.2.1 x.2.1.2.2.2.1, fun (x : ((Nat × Nat × Nat × (Nat → Int) × (Nat → Int) × (Nat → Int) × Unit) × (Nat × Nat × Nat × (Nat → Bool) × Unit) × Unit) × (Nat × Nat × Nat × (Nat → Int) × Unit) × Unit) => (fun (ar nr mr : Nat) (tr : Nat → Int) (vr : Nat → Int) (gr : Nat → Int) (ao no mo : Nat) (to : Nat → Bool) (al nl ml : Nat) (tl : Nat → Int) => (V35 ar nr mr tr vr gr ao no mo to al nl ml tl) (S.erS nr (fun j => tr (j + ar)) (fun j => vr (j + ar)) (fun j => gr (j + ar)) no nl (fun j => tl (j + al)))) x.1.1.1 x.1.1.2.1 x.1.1.2.2.1 x.1.1.2.2.2.1 x.1.1.2.2.2.2.1 x.1.1.2.2.2.2.2.1 x.1.2.1.1 x.1.2.1.2.1 x.1.2.1.2.2.1 x.1.2.1.2.2.2.1 x.2.1.1 x.2.1.2.1 x.2.1.2.2.1 x.2.1.2.2.2.1, fun (x : ((Nat × Nat × Nat × (Nat → Int) × (Nat → Int) × (Nat → Int) × Unit) × (Nat × Nat × Nat × (Nat → Bool) × Unit) × Unit) × (Nat × Nat × Nat × (Nat → Int) × Unit) × Unit) => (fun (ar nr mr : Nat) (tr : Nat → Int) (vr : Nat → Int) (gr : Nat → Int) (ao no mo : Nat) (to : Nat → Bool) (al nl ml : Nat) (tl : Nat → Int) => (N35 ar nr mr tr vr gr ao no mo to al nl ml tl) (S.erS nr (fun j => tr (j + ar)) (fun j => vr (j + ar)) (fun j => gr (j + ar)) no nl (fun j => tl (j + al)))) x.1.1.1 x.1.1.2.1 x.1.1.2.2.1 x.1.1.2.2.2.1 x.1.1.2.2.2.2.1 x.1.1.2.2.2.2.2.1 x.1.2.1.1 x.1.2.1.2.1 x.1.2.1.2.2.1 x.1.2.1.2.2.2.1 x.2.1.1 x.2.1.2.1 x.2.1.2.2.1 x.2.1.2.2.2.1, fun _ _ => .dead⟩
theorem s35b (ar nr mr : Nat) (tr : Nat → Int) (vr : Nat → Int) (gr : Nat → Int) (ao no mo : Nat) (to : Nat → Bool) (al nl ml : Nat) (tl : Nat → Int) (hp : ar + nr ≤ mr ∧ nr ≤ 1000000 ∧ ao + no ≤ mo ∧ no ≤ 1000000 ∧ al + nl ≤ ml ∧ nl ≤ 1000000) (i : Nat) (hi : i < nr) {R : Bool × Int} (h1 : S.any (fun j => decide (tl (j + al) ≥ tr (i + ar) ∨ tl (j + al) ≤ vr (i + ar))) nl = true → Comes (q35 ar nr mr tr vr gr ao no mo to al nl ml tl) (.h0 ((i : Int) + 1)) R) (h2 : S.any (fun j => decide (tl (j + al) ≥ tr (i + ar) ∨ tl (j + al) ≤ vr (i + ar))) nl = false → R = (false, 0)) : ∀ (k j : Nat) (f : Bool), j + k = nl → Holds (f = S.any (fun j => decide (tl (j + al) ≥ tr (i + ar) ∨ tl (j + al) ≤ vr (i + ar))) j) → Comes (q35 ar nr mr tr vr gr ao no mo to al nl ml tl) (.h1 (i : Int) f (j : Int)) R := by
  obtain ⟨hp1, hp2, hp3, hp4, hp5, hp6⟩ := hp
  intro k
  induction k with
  | zero =>
    intro j f hj ef
    have ef := ef.get
    obtain rfl : nl = j := by omega
    rw [← ef] at h1 h2
    cases f
    all_goals (
      apply Comes.of
      show Goes _ _ _
      unfold q35
      repeat' first
        | with_reducible refine goes_if (fun h => ?_) (fun h => ?_) <;> (try simp only [lim64, decide_eq_true_eq, decide_eq_false_iff_not, Int.toNat_natCast, toNat_pred, toNat_succ, Option.getD_some, Option.getD_none, Bool.not_eq_true', Bool.not_eq_false', Bool.and_eq_true, Bool.or_eq_true, Bool.and_eq_false_iff, Bool.or_eq_false_iff, bne_iff_ne, beq_iff_eq, bne_eq_false_iff_eq, beq_eq_false_iff_ne, ne_eq, not_and, Int.not_le, Int.not_lt, ge_iff_le, gt_iff_lt, Nat.not_lt, Nat.not_le, Bool.not_eq_true, Bool.not_eq_false, Bool.true_eq_false, Bool.false_eq_true, not_false_eq_true, not_true_eq_false] at h)
        | exact goes_none.mpr (by omega)
      )
    all_goals first | (exfalso; omega) | (exfalso; simp_all; done) | exact h1 rfl | exact goes_inr.mpr (h2 rfl).symm
  | succ k ih =>
    intro j f hj ef
    have ef := ef.get
    cases f
    all_goals (
      apply Comes.of
      show Goes _ _ _
      unfold q35
      repeat' first
        | with_reducible refine goes_if (fun h => ?_) (fun h => ?_) <;> (try simp only [lim64, decide_eq_true_eq, decide_eq_false_iff_not, Int.toNat_natCast, toNat_pred, toNat_succ, Option.getD_some, Option.getD_none, Bool.not_eq_true', Bool.not_eq_false', Bool.and_eq_true, Bool.or_eq_true, Bool.and_eq_false_iff, Bool.or_eq_false_iff, bne_iff_ne, beq_iff_eq, bne_eq_false_iff_eq, beq_eq_false_iff_ne, ne_eq, not_and, Int.not_le, Int.not_lt, ge_iff_le, gt_iff_lt, Nat.not_lt, Nat.not_le, Bool.not_eq_true, Bool.not_eq_false, Bool.true_eq_false, Bool.false_eq_true, not_false_eq_true, not_true_eq_false] at h)
        | exact goes_none.mpr (by omega)
      )
    all_goals first | (exfalso; omega) | (exfalso; simp_all; done) | (refine ih (j + 1) _ (by omega) ⟨?_⟩; rw [any_succ, ← ef]; first | rfl | (symm; rw [Bool.false_or, decide_eq_true_eq]; omega) | (symm; rw [Bool.false_or, decide_eq_false_iff_not]; (try simp only [Int.toNat_natCast] at *); omega))
theorem s35' (ar nr mr : Nat) (tr : Nat → Int) (vr : Nat → Int) (gr : Nat → Int) (ao no mo : Nat) (to : Nat → Bool) (al nl ml : Nat) (tl : Nat → Int) (hp : ar + nr ≤ mr ∧ nr ≤ 1000000 ∧ ao + no ≤ mo ∧ no ≤ 1000000 ∧ al + nl ≤ ml ∧ nl ≤ 1000000) : ∀ k i : Nat, i + k = nr → Comes (q35 ar nr mr tr vr gr ao no mo to al nl ml tl) (.h0 (i : Int)) (S.erB (fun j => tr (j + ar)) (fun j => vr (j + ar)) nl (fun j => tl (j + al)) i k, 0) := by
  have hp' := hp
  obtain ⟨hp1, hp2, hp3, hp4, hp5, hp6⟩ := hp
  intro k
  induction k with
  | zero =>
    intro i hi
    apply Comes.of
    show Goes _ _ _
    unfold q35
    repeat' first
      | with_reducible refine goes_if (fun h => ?_) (fun h => ?_) <;> (try simp only [lim64, decide_eq_true_eq, decide_eq_false_iff_not, Int.toNat_natCast, toNat_pred, toNat_succ, Option.getD_some, Option.getD_none, Bool.not_eq_true', Bool.not_eq_false', Bool.and_eq_true, Bool.or_eq_true, Bool.and_eq_false_iff, Bool.or_eq_false_iff, bne_iff_ne, beq_iff_eq, bne_eq_false_iff_eq, beq_eq_false_iff_ne, ne_eq, not_and, Int.not_le, Int.not_lt, ge_iff_le, gt_iff_lt, Nat.not_lt, Nat.not_le, Bool.not_eq_true, Bool.not_eq_false, Bool.true_eq_false, Bool.false_eq_true, not_false_eq_true, not_true_eq_false] at h)
      | exact goes_none.mpr (by omega)
    all_goals first | (exfalso; omega) | rfl
  | succ k ih =>
    intro i hi
    have ih := ih (i + 1) (by omega)
    have hb := s35b ar nr mr tr vr gr ao no mo to al nl ml tl hp' i (by omega) (R := (S.erB (fun j => tr (j + ar)) (fun j => vr (j + ar)) nl (fun j => tl (j + al)) i (k + 1), 0)) (fun h => by simp only [S.erB, h, if_true]; exact ih) (fun h => by simp only [S.erB, h, Bool.false_eq_true, if_false]) nl 0 false (by omega) ⟨rfl⟩
    apply Comes.of
    show Goes _ _ _
    unfold q35
    repeat' first
      | with_reducible refine goes_if (fun h => ?_) (fun h => ?_) <;> (try simp only [lim64, decide_eq_true_eq, decide_eq_false_iff_not, Int.toNat_natCast, toNat_pred, toNat_succ, Option.getD_some, Option.getD_none, Bool.not_eq_true', Bool.not_eq_false', Bool.and_eq_true, Bool.or_eq_true, Bool.and_eq_false_iff, Bool.or_eq_false_iff, bne_iff_ne, beq_iff_eq, bne_eq_false_iff_eq, beq_eq_false_iff_ne, ne_eq, not_and, Int.not_le, Int.not_lt, ge_iff_le, gt_iff_lt, Nat.not_lt, Nat.not_le, Bool.not_eq_true, Bool.not_eq_false, Bool.true_eq_false, Bool.false_eq_true, not_false_eq_true, not_true_eq_false] at h)
      | exact goes_none.mpr (by omega)
    all_goals first | (exfalso; omega) | exact hb
theorem s35 (ar nr mr : Nat) (tr : Nat → Int) (vr : Nat → Int) (gr : Nat → Int) (ao no mo : Nat) (to : Nat → Bool) (al nl ml : Nat) (tl : Nat → Int) (hp : ar + nr ≤ mr ∧ nr ≤ 1000000 ∧ ao + no ≤ mo ∧ no ≤ 1000000 ∧ al + nl ≤ ml ∧ nl ≤ 1000000) : Goes ((q35 ar nr mr tr vr gr ao no mo to al nl ml tl)) ((p35 ar nr mr tr vr gr ao no mo to al nl ml tl)) (S.erS nr (fun j => tr (j + ar)) (fun j => vr (j + ar)) (fun j => gr (j + ar)) no nl (fun j => tl (j + al))) := by
  unfold S.erS
  by_cases hv : S.histE nr (fun j => tr (j + ar)) (fun j => vr (j + ar)) (fun j => gr (j + ar)) no nl (fun j => tl (j + al)) = 0
  · have hm := s35' ar nr mr tr vr gr ao no mo to al nl ml tl hp nr 0 (by omega)
    obtain ⟨hp1, hp2, hp3, hp4, hp5, hp6⟩ := hp
    rw [if_pos hv]
    show Goes _ _ _
    unfold p35
    repeat' first
      | with_reducible refine goes_if (fun h => ?_) (fun h => ?_) <;> (try simp only [lim64, decide_eq_true_eq, decide_eq_false_iff_not, Int.toNat_natCast, toNat_pred, toNat_succ, Option.getD_some, Option.getD_none, Bool.not_eq_true', Bool.not_eq_false', Bool.and_eq_true, Bool.or_eq_true, Bool.and_eq_false_iff, Bool.or_eq_false_iff, bne_iff_ne, beq_iff_eq, bne_eq_false_iff_eq, beq_eq_false_iff_ne, ne_eq, not_and, Int.not_le, Int.not_lt, ge_iff_le, gt_iff_lt, Nat.not_lt, Nat.not_le, Bool.not_eq_true, Bool.not_eq_false, Bool.true_eq_false, Bool.false_eq_true, not_false_eq_true, not_true_eq_false] at h)
      | exact goes_none.mpr (by omega)
    all_goals first | (exfalso; omega) | (exfalso; exact absurd hv (by assumption)) | exact hm
  · obtain ⟨hp1, hp2, hp3, hp4, hp5, hp6⟩ := hp
    rw [if_neg hv]
    show Goes _ _ _
    unfold p35
    repeat' first
      | with_reducible refine goes_if (fun h => ?_) (fun h => ?_) <;> (try simp only [lim64, decide_eq_true_eq, decide_eq_false_iff_not, Int.toNat_natCast, toNat_pred, toNat_succ, Option.getD_some, Option.getD_none, Bool.not_eq_true', Bool.not_eq_false', Bool.and_eq_true, Bool.or_eq_true, Bool.and_eq_false_iff, Bool.or_eq_false_iff, bne_iff_ne, beq_iff_eq, bne_eq_false_iff_eq, beq_eq_false_iff_ne, ne_eq, not_and, Int.not_le, Int.not_lt, ge_iff_le, gt_iff_lt, Nat.not_lt, Nat.not_le, Bool.not_eq_true, Bool.not_eq_false, Bool.true_eq_false, Bool.false_eq_true, not_false_eq_true, not_true_eq_false] at h)
      | exact goes_none.mpr (by omega)
    all_goals first | (exfalso; omega) | (exfalso; exact hv (by assumption)) | rfl

theorem k35_ok : k35.ok Try.prog := by
  intro x hx
  obtain ⟨⟨⟨ar, nr, mr, tr, vr, gr, _⟩, ⟨ao, no, mo, to, _⟩, _⟩, ⟨al, nl, ml, tl, _⟩, _⟩ := x
  obtain ⟨h1, h2⟩ := a35 ar nr mr tr vr gr ao no mo to al nl ml tl (s35 ar nr mr tr vr gr ao no mo to al nl ml tl (of_decide_eq_true hx))
  exact ⟨⟨400, (by decide : 3 + 1 + 0 ≤ 400), h1⟩, h2⟩


end Go.Ev
