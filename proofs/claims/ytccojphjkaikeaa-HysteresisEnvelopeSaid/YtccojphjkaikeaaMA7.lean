/-
  Envelope, in the program and in the reference.
-/
import Derived.Test.YtccojphjkaikeaaMA4
namespace Go.Ev
open Go.Proofs
set_option linter.unusedVariables false
set_option linter.unusedSimpArgs false
set_option maxRecDepth 100000
noncomputable def yA7 (test : Bool → Prop → Prop → Prop) : Ext := consX test [k21, k22, k42]
theorem yA7_ok : ExtOk Try.prog (yA7 cond) := consX_ok (l := [k21, k22, k42]) ⟨k21_ok, k22_ok, k42_ok, trivial⟩
inductive St32 where
  | h0 (x0 : Int) (x1 : Int) (x2 : Int)
abbrev Rt32 := Int × Int × Int
noncomputable def V32 (ar nr mr : Nat) (tr : Nat → Int) (vr : Nat → Int) (gr : Nat → Int) (ao no mo : Nat) (to : Nat → Bool) (v : Int) (r : Rt32) : PV := PV.tup [PV.int IntKind.i64 r.1, PV.int IntKind.i64 r.2.1, PV.int IntKind.i64 r.2.2]
noncomputable def N32 (ar nr mr : Nat) (tr : Nat → Int) (vr : Nat → Int) (gr : Nat → Int) (ao no mo : Nat) (to : Nat → Bool) (v : Int) (r : Rt32) : List Blk := []
noncomputable def I32 (ar nr mr : Nat) (tr : Nat → Int) (vr : Nat → Int) (gr : Nat → Int) (ao no mo : Nat) (to : Nat → Bool) (v : Int) : St32 → Hd
  | .h0 x0 x1 x2 => ⟨hd Try.f32 0, [PV.int IntKind.i64 v, PV.int IntKind.i64 x0, PV.int IntKind.i64 x1,
 PV.loose (PA.mk (0) (3) ar (0)) nr, PV.int IntKind.i64 (↑nr : Int),
 PV.int IntKind.i64 x2], [[], [(0, (false, .cols mr [.int .i64 tr, .int .i64 vr, .int .i64 gr])), (1, (false, .cols mo [.bool to]))]], 2⟩
noncomputable def q32 (ar nr mr : Nat) (tr : Nat → Int) (vr : Nat → Int) (gr : Nat → Int) (ao no mo : Nat) (to : Nat → Bool) (v : Int) : St32 → Option (St32 ⊕ Rt32)
  | .h0 x0 x1 x2 => bif (decide (x2 < (↑nr : Int)))
 then (bif (decide ((0 : Int) ≤ x2 ∧ x2 < (↑nr : Int)))
 then (bif (decide (Int.toNat x2 + ar < mr))
 then (bif (decide (v ≥ tr (Int.toNat x2 + ar)))
 then (bif (lim IntKind.i64 (x0 + gr (Int.toNat x2 + ar)))
 then (bif (decide (v > vr (Int.toNat x2 + ar)))
 then (bif (lim IntKind.i64 (x1 + gr (Int.toNat x2 + ar)))
 then (bif (lim IntKind.i64 (x2 + (1 : Int)))
 then (some (.inl (.h0 (x0 + gr (Int.toNat x2 + ar)) (x1 + gr (Int.toNat x2 + ar)) (x2 + (1 : Int)))))
 else (none))
 else (none))
 else (bif (lim IntKind.i64 (x2 + (1 : Int)))
 then (some (.inl (.h0 (x0 + gr (Int.toNat x2 + ar)) (x1) (x2 + (1 : Int)))))
 else (none)))
 else (none))
 else (bif (decide (v > vr (Int.toNat x2 + ar)))
 then (bif (lim IntKind.i64 (x1 + gr (Int.toNat x2 + ar)))
 then (bif (lim IntKind.i64 (x2 + (1 : Int)))
 then (some (.inl (.h0 (x0) (x1 + gr (Int.toNat x2 + ar)) (x2 + (1 : Int)))))
 else (none))
 else (none))
 else (bif (lim IntKind.i64 (x2 + (1 : Int)))
 then (some (.inl (.h0 (x0) (x1) (x2 + (1 : Int)))))
 else (none))))
 else (none))
 else (none))
 else (some (.inr (x0, x1, (0 : Int))))
noncomputable def p32 (ar nr mr : Nat) (tr : Nat → Int) (vr : Nat → Int) (gr : Nat → Int) (ao no mo : Nat) (to : Nat → Bool) (v : Int) : Option (St32 ⊕ Rt32) := bif (decide (ar + nr ≤ mr ∧ nr ≤ 1000000 ∧ 1 ≤ 1 ∧ 1 ≤ 1000000))
 then (bif ((S.histE nr (fun (j : Nat) => tr (j + ar)) (fun (j : Nat) => vr (j + ar)) (fun (j : Nat) => gr (j + ar)) no
 (1) fun (j : Nat) => S.lit [v] (0 : Int) j) !=
 (0 : Int))
 then (some (.inr ((0 : Int), (0 : Int), S.histE nr (fun (j : Nat) => tr (j + ar)) (fun (j : Nat) => vr (j + ar)) (fun (j : Nat) => gr (j + ar)) no
 (1) fun (j : Nat) => S.lit [v] (0 : Int) j)))
 else (some (.inl (.h0 ((0 : Int)) ((0 : Int)) ((0 : Int))))))
 else (none)
noncomputable def Te32 (test : Bool → Prop → Prop → Prop) (Kst : KS) (Kret : KR) (ar nr mr : Nat) (tr : Nat → Int) (vr : Nat → Int) (gr : Nat → Int) (ao no mo : Nat) (to : Nat → Bool) (v : Int) : Prop :=
  test (decide (ar + nr ≤ mr ∧ nr ≤ 1000000 ∧ 1 ≤ 1 ∧ 1 ≤ 1000000))
 (test ((S.histE nr (fun (j : Nat) => tr (j + ar)) (fun (j : Nat) => vr (j + ar)) (fun (j : Nat) => gr (j + ar)) no
 (1) fun (j : Nat) => S.lit [v] (0 : Int) j) !=
 (0 : Int))
 (Kret (PV.tup
 [PV.int IntKind.i64 (0 : Int), PV.int IntKind.i64 (0 : Int),
 PV.int IntKind.i64
 (S.histE nr (fun (j : Nat) => tr (j + ar)) (fun (j : Nat) => vr (j + ar)) (fun (j : Nat) => gr (j + ar)) no
 (1) fun (j : Nat) => S.lit [v] (0 : Int) j)]) ([[(1, false, Blk.cols mo [Col.bool to]),
 (0, false,
 Blk.cols mr
 [Col.int IntKind.i64 tr, Col.int IntKind.i64 vr, Col.int IntKind.i64 gr])]]) (5))
 (Kst (hd Try.f32 0) ([PV.int IntKind.i64 v, PV.int IntKind.i64 (0 : Int), PV.int IntKind.i64 (0 : Int),
 PV.loose (PA.mk (0) (3) ar (0)) nr, PV.int IntKind.i64 (↑nr : Int),
 PV.int IntKind.i64 (0 : Int)]) ([[(1, false, Blk.cols mo [Col.bool to]),
 (0, false,
 Blk.cols mr
 [Col.int IntKind.i64 tr, Col.int IntKind.i64 vr, Col.int IntKind.i64 gr])]]) (5)))
 (False)
set_option maxRecDepth 100000 in
theorem te32 (test : Bool → Prop → Prop → Prop) (Kst : KS) (Kret : KR) (ar nr mr : Nat) (tr : Nat → Int) (vr : Nat → Int) (gr : Nat → Int) (ao no mo : Nat) (to : Nat → Bool) (v : Int) : run test Try.env true (yA7 test) true 400 ⟨32, [.cd (mkFn Try.f32).body], argT 0 [.agg [.loose ⟨0, 3, ar, 0⟩ nr, .loose ⟨1, 1, ao, 0⟩ no], .int .i64 v], [[], [(0, (false, .cols mr [.int .i64 tr, .int .i64 vr, .int .i64 gr])), (1, (false, .cols mo [.bool to]))]], 2⟩ (proj 2 [1, 8, 9, 20, 21, 22] Kst Kret) =
  Te32 test Kst Kret ar nr mr tr vr gr ao no mo to v := by kernel_rfl
noncomputable def T32_0 (test : Bool → Prop → Prop → Prop) (Kst : KS) (Kret : KR) (ar nr mr : Nat) (tr : Nat → Int) (vr : Nat → Int) (gr : Nat → Int) (ao no mo : Nat) (to : Nat → Bool) (v : Int) (x0 : Int) (x1 : Int) (x2 : Int) : Prop :=
  test (decide (x2 < (↑nr : Int)))
 (test (decide ((0 : Int) ≤ x2 ∧ x2 < (↑nr : Int)))
 (test (decide (Int.toNat x2 + ar < mr))
 (test (decide (Int.toNat x2 + ar < mr))
 (test (decide (Int.toNat x2 + ar < mr))
 (test (decide (v ≥ tr (Int.toNat x2 + ar)))
 (test (lim IntKind.i64 (x0 + gr (Int.toNat x2 + ar)))
 (test (decide (v > vr (Int.toNat x2 + ar)))
 (test (lim IntKind.i64 (x1 + gr (Int.toNat x2 + ar)))
 (test (lim IntKind.i64 (x2 + (1 : Int)))
 (Kst (hd Try.f32 0) ([PV.int IntKind.i64 v, PV.int IntKind.i64 (x0 + gr (Int.toNat x2 + ar)),
 PV.int IntKind.i64 (x1 + gr (Int.toNat x2 + ar)),
 PV.loose (PA.mk (0) (3) ar (0)) nr, PV.int IntKind.i64 (↑nr : Int),
 PV.int IntKind.i64 (x2 + (1 : Int))]) ([[(1, false, Blk.cols mo [Col.bool to]),
 (0, false,
 Blk.cols mr
 [Col.int IntKind.i64 tr, Col.int IntKind.i64 vr, Col.int IntKind.i64 gr])]]) (3))
 (False))
 (False))
 (test (lim IntKind.i64 (x2 + (1 : Int)))
 (Kst (hd Try.f32 0) ([PV.int IntKind.i64 v, PV.int IntKind.i64 (x0 + gr (Int.toNat x2 + ar)),
 PV.int IntKind.i64 x1, PV.loose (PA.mk (0) (3) ar (0)) nr,
 PV.int IntKind.i64 (↑nr : Int), PV.int IntKind.i64 (x2 + (1 : Int))]) ([[(1, false, Blk.cols mo [Col.bool to]),
 (0, false,
 Blk.cols mr
 [Col.int IntKind.i64 tr, Col.int IntKind.i64 vr, Col.int IntKind.i64 gr])]]) (3))
 (False)))
 (False))
 (test (decide (v > vr (Int.toNat x2 + ar)))
 (test (lim IntKind.i64 (x1 + gr (Int.toNat x2 + ar)))
 (test (lim IntKind.i64 (x2 + (1 : Int)))
 (Kst (hd Try.f32 0) ([PV.int IntKind.i64 v, PV.int IntKind.i64 x0,
 PV.int IntKind.i64 (x1 + gr (Int.toNat x2 + ar)),
 PV.loose (PA.mk (0) (3) ar (0)) nr, PV.int IntKind.i64 (↑nr : Int),
 PV.int IntKind.i64 (x2 + (1 : Int))]) ([[(1, false, Blk.cols mo [Col.bool to]),
 (0, false,
 Blk.cols mr
 [Col.int IntKind.i64 tr, Col.int IntKind.i64 vr, Col.int IntKind.i64 gr])]]) (3))
 (False))
 (False))
 (test (lim IntKind.i64 (x2 + (1 : Int)))
 (Kst (hd Try.f32 0) ([PV.int IntKind.i64 v, PV.int IntKind.i64 x0, PV.int IntKind.i64 x1,
 PV.loose (PA.mk (0) (3) ar (0)) nr, PV.int IntKind.i64 (↑nr : Int),
 PV.int IntKind.i64 (x2 + (1 : Int))]) ([[(1, false, Blk.cols mo [Col.bool to]),
 (0, false,
 Blk.cols mr
 [Col.int IntKind.i64 tr, Col.int IntKind.i64 vr, Col.int IntKind.i64 gr])]]) (3))
 (False))))
 (False))
 (False))
 (False))
 (False))
 (Kret (PV.tup [PV.int IntKind.i64 x0, PV.int IntKind.i64 x1, PV.int IntKind.i64 (0 : Int)]) ([[(1, false, Blk.cols mo [Col.bool to]),
 (0, false,
 Blk.cols mr
 [Col.int IntKind.i64 tr, Col.int IntKind.i64 vr, Col.int IntKind.i64 gr])]]) (2))
set_option maxRecDepth 100000 in
theorem t32_0 (test : Bool → Prop → Prop → Prop) (Kst : KS) (Kret : KR) (ar nr mr : Nat) (tr : Nat → Int) (vr : Nat → Int) (gr : Nat → Int) (ao no mo : Nat) (to : Nat → Bool) (v : Int) (x0 : Int) (x1 : Int) (x2 : Int) : run test Try.env true (yA7 test) true 400 ⟨32, hd Try.f32 0, zipT [1, 8, 9, 20, 21, 22] [PV.int IntKind.i64 v, PV.int IntKind.i64 x0, PV.int IntKind.i64 x1,
 PV.loose (PA.mk (0) (3) ar (0)) nr, PV.int IntKind.i64 (↑nr : Int),
 PV.int IntKind.i64 x2], [[], [(0, (false, .cols mr [.int .i64 tr, .int .i64 vr, .int .i64 gr])), (1, (false, .cols mo [.bool to]))]], 2⟩ (proj 2 [1, 8, 9, 20, 21, 22] Kst Kret) =
  T32_0 test Kst Kret ar nr mr tr vr gr ao no mo to v x0 x1 x2 := by kernel_rfl
set_option maxRecDepth 100000 in
theorem be32 (ar nr mr : Nat) (tr : Nat → Int) (vr : Nat → Int) (gr : Nat → Int) (ao no mo : Nat) (to : Nat → Bool) (v : Int) (Kst : KS) (Kret : KR) (x : St32 ⊕ Rt32) (hS : HS 2 400 ((I32 ar nr mr tr vr gr ao no mo to v)) Kst x) (hR : HR 2 400 ((V32 ar nr mr tr vr gr ao no mo to v)) (fun r => [newL (2 + 1) ((N32 ar nr mr tr vr gr ao no mo to v) r) ++ [(0, (false, .cols mr [.int .i64 tr, .int .i64 vr, .int .i64 gr])), (1, (false, .cols mo [.bool to]))]]) Kret x) (h : (bif (decide (ar + nr ≤ mr ∧ nr ≤ 1000000 ∧ 1 ≤ 1 ∧ 1 ≤ 1000000))
 then (bif ((S.histE nr (fun (j : Nat) => tr (j + ar)) (fun (j : Nat) => vr (j + ar)) (fun (j : Nat) => gr (j + ar)) no
 (1) fun (j : Nat) => S.lit [v] (0 : Int) j) !=
 (0 : Int))
 then (some (.inr ((0 : Int), (0 : Int), S.histE nr (fun (j : Nat) => tr (j + ar)) (fun (j : Nat) => vr (j + ar)) (fun (j : Nat) => gr (j + ar)) no
 (1) fun (j : Nat) => S.lit [v] (0 : Int) j)))
 else (some (.inl (.h0 ((0 : Int)) ((0 : Int)) ((0 : Int))))))
 else (none) : Option (St32 ⊕ Rt32)) = some x) : Te32 cond Kst Kret ar nr mr tr vr gr ao no mo to v := by
  unfold Te32
  exact bif_split h
   (fun c0 h => bif_split h
   (fun c1 h => ret_at hR _ h (fun n => n) rfl rfl rfl (rn_tup ⟨(rn_int rfl), (rn_int rfl), (rn_int rfl), trivial⟩) rfl (entl_bor (use_lo rfl) rfl rfl (entl_bor (use_lo rfl) rfl rfl entl_nil)))
   (fun c1 h => stop_at hS _ h (fun n => n) rfl rfl rfl ⟨(rn_int rfl), ⟨(rn_int rfl), ⟨(rn_int rfl), ⟨(rn_loose (use_lo rfl) rfl rfl rfl), ⟨(rn_int rfl), ⟨(rn_int rfl), trivial⟩⟩⟩⟩⟩⟩ rfl (entl_bor (use_lo rfl) rfl rfl (entl_bor (use_lo rfl) rfl rfl entl_nil))))
   (fun c0 h => no_some h)
set_option maxRecDepth 100000 in
theorem b32_0 (ar nr mr : Nat) (tr : Nat → Int) (vr : Nat → Int) (gr : Nat → Int) (ao no mo : Nat) (to : Nat → Bool) (v : Int) (Kst : KS) (Kret : KR) (x : St32 ⊕ Rt32) (hS : HS 2 400 ((I32 ar nr mr tr vr gr ao no mo to v)) Kst x) (hR : HR 2 400 ((V32 ar nr mr tr vr gr ao no mo to v)) (fun r => [newL (2 + 1) ((N32 ar nr mr tr vr gr ao no mo to v) r) ++ [(0, (false, .cols mr [.int .i64 tr, .int .i64 vr, .int .i64 gr])), (1, (false, .cols mo [.bool to]))]]) Kret x) (x0 : Int) (x1 : Int) (x2 : Int) (h : (bif (decide (x2 < (↑nr : Int)))
 then (bif (decide ((0 : Int) ≤ x2 ∧ x2 < (↑nr : Int)))
 then (bif (decide (Int.toNat x2 + ar < mr))
 then (bif (decide (v ≥ tr (Int.toNat x2 + ar)))
 then (bif (lim IntKind.i64 (x0 + gr (Int.toNat x2 + ar)))
 then (bif (decide (v > vr (Int.toNat x2 + ar)))
 then (bif (lim IntKind.i64 (x1 + gr (Int.toNat x2 + ar)))
 then (bif (lim IntKind.i64 (x2 + (1 : Int)))
 then (some (.inl (.h0 (x0 + gr (Int.toNat x2 + ar)) (x1 + gr (Int.toNat x2 + ar)) (x2 + (1 : Int)))))
 else (none))
 else (none))
 else (bif (lim IntKind.i64 (x2 + (1 : Int)))
 then (some (.inl (.h0 (x0 + gr (Int.toNat x2 + ar)) (x1) (x2 + (1 : Int)))))
 else (none)))
 else (none))
 else (bif (decide (v > vr (Int.toNat x2 + ar)))
 then (bif (lim IntKind.i64 (x1 + gr (Int.toNat x2 + ar)))
 then (bif (lim IntKind.i64 (x2 + (1 : Int)))
 then (some (.inl (.h0 (x0) (x1 + gr (Int.toNat x2 + ar)) (x2 + (1 : Int)))))
 else (none))
 else (none))
 else (bif (lim IntKind.i64 (x2 + (1 : Int)))
 then (some (.inl (.h0 (x0) (x1) (x2 + (1 : Int)))))
 else (none))))
 else (none))
 else (none))
 else (some (.inr (x0, x1, (0 : Int)))) : Option (St32 ⊕ Rt32)) = some x) : T32_0 cond Kst Kret ar nr mr tr vr gr ao no mo to v x0 x1 x2 := by
  unfold T32_0
  exact bif_split h
   (fun c0 h => bif_split h
   (fun c1 h => bif_split h
   (fun c2 h => cond_yes c2 (cond_yes c2 (bif_split h
   (fun c3 h => bif_split h
   (fun c4 h => bif_split h
   (fun c5 h => bif_split h
   (fun c6 h => bif_split h
   (fun c7 h => stop_at hS _ h (fun n => n) rfl rfl rfl ⟨(rn_int rfl), ⟨(rn_int rfl), ⟨(rn_int rfl), ⟨(rn_loose (use_lo rfl) rfl rfl rfl), ⟨(rn_int rfl), ⟨(rn_int rfl), trivial⟩⟩⟩⟩⟩⟩ rfl (entl_bor (use_lo rfl) rfl rfl (entl_bor (use_lo rfl) rfl rfl entl_nil)))
   (fun c7 h => no_some h))
   (fun c6 h => no_some h))
   (fun c5 h => bif_split h
   (fun c6 h => stop_at hS _ h (fun n => n) rfl rfl rfl ⟨(rn_int rfl), ⟨(rn_int rfl), ⟨(rn_int rfl), ⟨(rn_loose (use_lo rfl) rfl rfl rfl), ⟨(rn_int rfl), ⟨(rn_int rfl), trivial⟩⟩⟩⟩⟩⟩ rfl (entl_bor (use_lo rfl) rfl rfl (entl_bor (use_lo rfl) rfl rfl entl_nil)))
   (fun c6 h => no_some h)))
   (fun c4 h => no_some h))
   (fun c3 h => bif_split h
   (fun c4 h => bif_split h
   (fun c5 h => bif_split h
   (fun c6 h => stop_at hS _ h (fun n => n) rfl rfl rfl ⟨(rn_int rfl), ⟨(rn_int rfl), ⟨(rn_int rfl), ⟨(rn_loose (use_lo rfl) rfl rfl rfl), ⟨(rn_int rfl), ⟨(rn_int rfl), trivial⟩⟩⟩⟩⟩⟩ rfl (entl_bor (use_lo rfl) rfl rfl (entl_bor (use_lo rfl) rfl rfl entl_nil)))
   (fun c6 h => no_some h))
   (fun c5 h => no_some h))
   (fun c4 h => bif_split h
   (fun c5 h => stop_at hS _ h (fun n => n) rfl rfl rfl ⟨(rn_int rfl), ⟨(rn_int rfl), ⟨(rn_int rfl), ⟨(rn_loose (use_lo rfl) rfl rfl rfl), ⟨(rn_int rfl), ⟨(rn_int rfl), trivial⟩⟩⟩⟩⟩⟩ rfl (entl_bor (use_lo rfl) rfl rfl (entl_bor (use_lo rfl) rfl rfl entl_nil)))
   (fun c5 h => no_some h))))))
   (fun c2 h => no_some h))
   (fun c1 h => no_some h))
   (fun c0 h => ret_at hR _ h (fun n => n) rfl rfl rfl (rn_tup ⟨(rn_int rfl), (rn_int rfl), (rn_int rfl), trivial⟩) rfl (entl_bor (use_lo rfl) rfl rfl (entl_bor (use_lo rfl) rfl rfl entl_nil)))
theorem a32 (ar nr mr : Nat) (tr : Nat → Int) (vr : Nat → Int) (gr : Nat → Int) (ao no mo : Nat) (to : Nat → Bool) (v : Int) {r : Rt32} (h : Goes ((q32 ar nr mr tr vr gr ao no mo to v)) ((p32 ar nr mr tr vr gr ao no mo to v)) r) : CallR Try.prog 32 [.agg [.loose ⟨0, 3, ar, 0⟩ nr, .loose ⟨1, 1, ao, 0⟩ no], .int .i64 v] [[(0, (false, .cols mr [.int .i64 tr, .int .i64 vr, .int .i64 gr])), (1, (false, .cols mo [.bool to]))]] 2 ((V32 ar nr mr tr vr gr ao no mo to v) r) ((fun r => [newL (2 + 1) ((N32 ar nr mr tr vr gr ao no mo to v) r) ++ [(0, (false, .cols mr [.int .i64 tr, .int .i64 vr, .int .i64 gr])), (1, (false, .cols mo [.bool to]))]]) r) 400 ∧ ∃ F, Try.prog.funcs[32]? = some F ∧ F.body.isSome = true ∧ (F.name == "runtime.NumGoroutine") = false := by
  refine dec_calls (f := 32) (lo := 2) (hi := 400) (H := [[(0, (false, .cols mr [.int .i64 tr, .int .i64 vr, .int .i64 gr])), (1, (false, .cols mo [.bool to]))]]) (args := [.agg [.loose ⟨0, 3, ar, 0⟩ nr, .loose ⟨1, 1, ao, 0⟩ no], .int .i64 v]) Try.envOk Try.mixed yA7_ok ((I32 ar nr mr tr vr gr ao no mo to v)) ((V32 ar nr mr tr vr gr ao no mo to v)) (fun r => [newL (2 + 1) ((N32 ar nr mr tr vr gr ao no mo to v) r) ++ [(0, (false, .cols mr [.int .i64 tr, .int .i64 vr, .int .i64 gr])), (1, (false, .cols mo [.bool to]))]]) (fn := mkFn Try.f32) (ts := [1, 8, 9, 20, 21, 22]) (n := 400) rfl (by decide) (by simp) (names_of rfl) ?_ ?_ ?_ h
  · intro s; cases s <;> exact ⟨hd_ok _ _, by simp [I32], names_of rfl, Nat.le_of_ble_eq_true rfl⟩
  · intro Kst Kret x hS hR h
    exact Holds.eq (te32 cond Kst Kret ar nr mr tr vr gr ao no mo to v) (be32 ar nr mr tr vr gr ao no mo to v Kst Kret x hS hR h)
  · intro Kst Kret x hS hR s h
    cases s with
    | h0 x0 x1 x2 => exact Holds.eq (t32_0 cond Kst Kret ar nr mr tr vr gr ao no mo to v x0 x1 x2) (b32_0 ar nr mr tr vr gr ao no mo to v Kst Kret x hS hR x0 x1 x2 h)
noncomputable def k32 : Con := ⟨32, [.agg [.list [.int .i64, .int .i64, .int .i64], .list [.bool]], .one (.plain (.int .i64))], fun (x : ((Nat × Nat × Nat × (Nat → Int) × (Nat → Int) × (Nat → Int) × Unit) × (Nat × Nat × Nat × (Nat → Bool) × Unit) × Unit) × Int × Unit) => (fun (ar nr mr : Nat) (tr : Nat → Int) (vr : Nat → Int) (gr : Nat → Int) (ao no mo : Nat) (to : Nat → Bool) (v : Int) => decide (ar + nr ≤ mr ∧ nr ≤ 1000000 ∧ ao + no ≤ mo ∧ no ≤ 1000000)) x.1.1.1 x.1.1.2.1 x.1.1.2.2.1 x.1.1.2.2.2.1 x.1.1.2.2.2.2.1 x.1.1.2.2.2.2.2.1 x.1.2.1.1 x.1.2.1.2.1 x.1.2.1.2.2.1 x.1.2.1.2.2.2.1 x.2.1, fun (x : ((Nat × Nat × Nat × (Nat → Int) × (Nat → Int) × (Nat → Int) × Unit) × (Nat × Nat × Nat × (Nat → Bool) × Unit) × Unit) × Int × Unit) => (fun (ar nr mr : Nat) (tr : Nat → Int) (vr : Nat → Int) (gr : Nat → Int) (ao no mo : Nat) (to : Nat → Bool) (v : Int) => (V32 ar nr mr tr vr gr ao no mo to v) (S.envS nr (fun j => tr (j + ar)) (fun j => vr (j + ar)) (fun j => gr (j + ar)) no v)) x.1.1.1 x.1.1.2.1 x.1.1.2.2.1 x.1.1.2.2.2.1 x.1.1.2.2.2.2.1 x.1.1.2.2.2.2.2.1 x.1.2.1.1 x.1.2.1.2.1 x.1.2.1.2.2.1 x.1.2.1.2.2.2.1 x.2.1, fun (x : ((Nat × Nat × Nat × (Nat → Int) × (Nat → Int) × (Nat → Int) × Unit) × (Nat × Nat × Nat × (Nat → Bool) × Unit) × Unit) × Int × Unit) => (fun (ar nr mr : Nat) (tr : Nat → Int) (vr : Nat → Int) (gr : Nat → Int) (ao no mo : Nat) (to : Nat → Bool) (v : Int) => (N32 ar nr mr tr vr gr ao no mo to v) (S.envS nr (fun j => tr (j + ar)) (fun j => vr (j + ar)) (fun j => gr (j + ar)) no v)) x.1.1.1 x.1.1.2.1 x.1.1.2.2.1 x.1.1.2.2.2.1 x.1.1.2.2.2.2.1 x.1.1.2.2.2.2.2.1 x.1.2.1.1 x.1.2.1.2.1 x.1.2.1.2.2.1 x.1.2.1.2.2.2.1 x.2.1, fun _ _ => .dead⟩
theorem s32' (ar nr mr : Nat) (tr : Nat → Int) (vr : Nat → Int) (gr : Nat → Int) (ao no mo : Nat) (to : Nat → Bool) (v : Int) (hp : ar + nr ≤ mr ∧ nr ≤ 1000000 ∧ ao + no ≤ mo ∧ no ≤ 1000000) (hv : S.magE nr (fun j => tr (j + ar)) (fun j => vr (j + ar)) (fun j => gr (j + ar)) no = 0) : ∀ (k i : Nat) (fa : Int) (fb : Int), i + k = nr → Holds (fa = S.fldN (fun j => gr (j + ar)) (fun j => decide (v ≥ tr (j + ar))) i) → Holds (fb = S.fldN (fun j => gr (j + ar)) (fun j => decide (v > vr (j + ar))) i) → Comes (q32 ar nr mr tr vr gr ao no mo to v) (.h0 fa fb (i : Int)) ((S.fldN (fun j => gr (j + ar)) (fun j => decide (v ≥ tr (j + ar))) nr, S.fldN (fun j => gr (j + ar)) (fun j => decide (v > vr (j + ar))) nr, 0)) := by
  obtain ⟨hp1, hp2, hp3, hp4⟩ := hp
  intro k
  induction k with
  | zero =>
    intro i fa fb hi efa efb
    obtain ⟨v1, v2, v3, v4⟩ := mag_ok hv
    have g1 : 0 ≤ fa ∧ fa ≤ i * 1073741824 := by rw [efa.get]; exact fld_ge (w := (fun j => gr (j + ar))) (o := (fun j => decide (v ≥ tr (j + ar)))) (n := nr) (fun j hj => by have := v4 j hj; omega) i (by omega)
    have g2 : 0 ≤ fb ∧ fb ≤ i * 1073741824 := by rw [efb.get]; exact fld_ge (w := (fun j => gr (j + ar))) (o := (fun j => decide (v > vr (j + ar)))) (n := nr) (fun j hj => by have := v4 j hj; omega) i (by omega)
    apply Comes.of
    show Goes _ _ _
    unfold q32
    repeat' first
      | with_reducible refine goes_if (fun h => ?_) (fun h => ?_) <;> (try simp only [lim64, decide_eq_true_eq, decide_eq_false_iff_not, Int.toNat_natCast, toNat_pred, toNat_succ, Option.getD_some, Option.getD_none, Bool.not_eq_true', Bool.not_eq_false', Bool.and_eq_true, Bool.or_eq_true, Bool.and_eq_false_iff, Bool.or_eq_false_iff, bne_iff_ne, beq_iff_eq, bne_eq_false_iff_eq, beq_eq_false_iff_ne, ne_eq, not_and, Int.not_le, Int.not_lt, ge_iff_le, gt_iff_lt, Nat.not_lt, Nat.not_le, Bool.not_eq_true, Bool.not_eq_false, Bool.true_eq_false, Bool.false_eq_true, not_false_eq_true, not_true_eq_false] at h)
      | exact goes_none.mpr (by omega)
    all_goals first | (exfalso; omega) | (obtain rfl : nr = i := (by omega); rw [efa.get]; rw [efb.get]; rfl)
  | succ k ih =>
    intro i fa fb hi efa efb
    obtain ⟨v1, v2, v3, v4⟩ := mag_ok hv
    have g1 : 0 ≤ fa ∧ fa ≤ i * 1073741824 := by rw [efa.get]; exact fld_ge (w := (fun j => gr (j + ar))) (o := (fun j => decide (v ≥ tr (j + ar)))) (n := nr) (fun j hj => by have := v4 j hj; omega) i (by omega)
    have g2 : 0 ≤ fb ∧ fb ≤ i * 1073741824 := by rw [efb.get]; exact fld_ge (w := (fun j => gr (j + ar))) (o := (fun j => decide (v > vr (j + ar)))) (n := nr) (fun j hj => by have := v4 j hj; omega) i (by omega)
    have w := v4 i (by omega)
    apply Comes.of
    show Goes _ _ _
    unfold q32
    repeat' first
      | with_reducible refine goes_if (fun h => ?_) (fun h => ?_) <;> (try simp only [lim64, decide_eq_true_eq, decide_eq_false_iff_not, Int.toNat_natCast, toNat_pred, toNat_succ, Option.getD_some, Option.getD_none, Bool.not_eq_true', Bool.not_eq_false', Bool.and_eq_true, Bool.or_eq_true, Bool.and_eq_false_iff, Bool.or_eq_false_iff, bne_iff_ne, beq_iff_eq, bne_eq_false_iff_eq, beq_eq_false_iff_ne, ne_eq, not_and, Int.not_le, Int.not_lt, ge_iff_le, gt_iff_lt, Nat.not_lt, Nat.not_le, Bool.not_eq_true, Bool.not_eq_false, Bool.true_eq_false, Bool.false_eq_true, not_false_eq_true, not_true_eq_false] at h)
      | exact goes_none.mpr (by omega)
    all_goals first
      | (exfalso; omega)
      | (refine ih (i + 1) _ _ (by omega) ⟨?_⟩ ⟨?_⟩ <;> (simp only [S.fldN, Bool.cond_eq_ite, decide_eq_true_eq, ← efa.get, ← efb.get]; (repeat' split) <;> first | rfl | omega | (exfalso; omega) | (exfalso; simp_all; done) | (exfalso; simp_all; omega) | simp_all))
theorem s32 (ar nr mr : Nat) (tr : Nat → Int) (vr : Nat → Int) (gr : Nat → Int) (ao no mo : Nat) (to : Nat → Bool) (v : Int) (hp : ar + nr ≤ mr ∧ nr ≤ 1000000 ∧ ao + no ≤ mo ∧ no ≤ 1000000) : Goes ((q32 ar nr mr tr vr gr ao no mo to v)) ((p32 ar nr mr tr vr gr ao no mo to v)) (S.envS nr (fun j => tr (j + ar)) (fun j => vr (j + ar)) (fun j => gr (j + ar)) no v) := by
  have hone := hist_one (n := nr) (u := (fun j => tr (j + ar))) (d := (fun j => vr (j + ar))) (w := (fun j => gr (j + ar))) (no := no) (x := v)
  unfold S.envS
  by_cases hv : S.magE nr (fun j => tr (j + ar)) (fun j => vr (j + ar)) (fun j => gr (j + ar)) no = 0
  · have hm := s32' ar nr mr tr vr gr ao no mo to v hp hv nr 0 0 0 (by omega) ⟨rfl⟩ ⟨rfl⟩
    obtain ⟨hp1, hp2, hp3, hp4⟩ := hp
    rw [if_pos hv] at hone ⊢
    by_cases hx : -1099511627776 ≤ v ∧ v ≤ 1099511627776
    · rw [if_pos hx] at hone ⊢
      show Goes _ _ _
      unfold p32
      try rw [hone]
      repeat' first
        | with_reducible refine goes_if (fun h => ?_) (fun h => ?_) <;> (try simp only [lim64, decide_eq_true_eq, decide_eq_false_iff_not, Int.toNat_natCast, toNat_pred, toNat_succ, Option.getD_some, Option.getD_none, Bool.not_eq_true', Bool.not_eq_false', Bool.and_eq_true, Bool.or_eq_true, Bool.and_eq_false_iff, Bool.or_eq_false_iff, bne_iff_ne, beq_iff_eq, bne_eq_false_iff_eq, beq_eq_false_iff_ne, ne_eq, not_and, Int.not_le, Int.not_lt, ge_iff_le, gt_iff_lt, Nat.not_lt, Nat.not_le, Bool.not_eq_true, Bool.not_eq_false, Bool.true_eq_false, Bool.false_eq_true, not_false_eq_true, not_true_eq_false] at h)
        | exact goes_none.mpr (by omega)
      all_goals first | (exfalso; omega) | exact hm
    · rw [if_neg hx] at hone ⊢
      show Goes _ _ _
      unfold p32
      try rw [hone]
      repeat' first
        | with_reducible refine goes_if (fun h => ?_) (fun h => ?_) <;> (try simp only [lim64, decide_eq_true_eq, decide_eq_false_iff_not, Int.toNat_natCast, toNat_pred, toNat_succ, Option.getD_some, Option.getD_none, Bool.not_eq_true', Bool.not_eq_false', Bool.and_eq_true, Bool.or_eq_true, Bool.and_eq_false_iff, Bool.or_eq_false_iff, bne_iff_ne, beq_iff_eq, bne_eq_false_iff_eq, beq_eq_false_iff_ne, ne_eq, not_and, Int.not_le, Int.not_lt, ge_iff_le, gt_iff_lt, Nat.not_lt, Nat.not_le, Bool.not_eq_true, Bool.not_eq_false, Bool.true_eq_false, Bool.false_eq_true, not_false_eq_true, not_true_eq_false] at h)
        | exact goes_none.mpr (by omega)
      all_goals first | (exfalso; omega) | rfl
  · obtain ⟨hp1, hp2, hp3, hp4⟩ := hp
    rw [if_neg hv] at hone ⊢
    show Goes _ _ _
    unfold p32
    try rw [hone]
    repeat' first
      | with_reducible refine goes_if (fun h => ?_) (fun h => ?_) <;> (try simp only [lim64, decide_eq_true_eq, decide_eq_false_iff_not, Int.toNat_natCast, toNat_pred, toNat_succ, Option.getD_some, Option.getD_none, Bool.not_eq_true', Bool.not_eq_false', Bool.and_eq_true, Bool.or_eq_true, Bool.and_eq_false_iff, Bool.or_eq_false_iff, bne_iff_ne, beq_iff_eq, bne_eq_false_iff_eq, beq_eq_false_iff_ne, ne_eq, not_and, Int.not_le, Int.not_lt, ge_iff_le, gt_iff_lt, Nat.not_lt, Nat.not_le, Bool.not_eq_true, Bool.not_eq_false, Bool.true_eq_false, Bool.false_eq_true, not_false_eq_true, not_true_eq_false] at h)
      | exact goes_none.mpr (by omega)
    all_goals first | (exfalso; omega) | (exfalso; exact hv (by assumption)) | rfl

theorem k32_ok : k32.ok Try.prog := by
  intro x hx
  obtain ⟨⟨⟨ar, nr, mr, tr, vr, gr, _⟩, ⟨ao, no, mo, to, _⟩, _⟩, v, _⟩ := x
  obtain ⟨h1, h2⟩ := a32 ar nr mr tr vr gr ao no mo to v (s32 ar nr mr tr vr gr ao no mo to v (of_decide_eq_true hx))
  exact ⟨⟨400, (by decide : 2 + 1 + 0 ≤ 400), h1⟩, h2⟩
inductive St33 where
  | h0 (x0 : Int) (x1 : Int) (x2 : Int)
abbrev Rt33 := Int × Int × Int
noncomputable def V33 (ar nr mr : Nat) (tr : Nat → Int) (vr : Nat → Int) (gr : Nat → Int) (ao no mo : Nat) (to : Nat → Bool) (v : Int) (r : Rt33) : PV := PV.tup [PV.int IntKind.i64 r.1, PV.int IntKind.i64 r.2.1, PV.int IntKind.i64 r.2.2]
noncomputable def N33 (ar nr mr : Nat) (tr : Nat → Int) (vr : Nat → Int) (gr : Nat → Int) (ao no mo : Nat) (to : Nat → Bool) (v : Int) (r : Rt33) : List Blk := []
noncomputable def I33 (ar nr mr : Nat) (tr : Nat → Int) (vr : Nat → Int) (gr : Nat → Int) (ao no mo : Nat) (to : Nat → Bool) (v : Int) : St33 → Hd
  | .h0 x0 x1 x2 => ⟨hd Try.f33 0, [PV.int IntKind.i64 v, PV.ptr (PA.mk (2) (0) (0) (0)),
 PV.int IntKind.i64 x0, PV.int IntKind.i64 x1, PV.int IntKind.i64 x2], [[(2, (true, Blk.cells
 [PV.loose (PA.mk (0) (3) ar (0)) nr,
 PV.loose (PA.mk (1) (1) ao (0)) no]))], [(0, (false, .cols mr [.int .i64 tr, .int .i64 vr, .int .i64 gr])), (1, (false, .cols mo [.bool to]))]], 3⟩
noncomputable def q33 (ar nr mr : Nat) (tr : Nat → Int) (vr : Nat → Int) (gr : Nat → Int) (ao no mo : Nat) (to : Nat → Bool) (v : Int) : St33 → Option (St33 ⊕ Rt33)
  | .h0 x0 x1 x2 => bif (decide (x2 < (↑nr : Int)))
 then (bif (decide ((0 : Int) ≤ x2 ∧ x2 < (↑nr : Int)))
 then (bif (decide (Int.toNat x2 + ar < mr))
 then (bif (decide (v ≥ tr (Int.toNat x2 + ar)))
 then (bif (lim IntKind.i64 (x0 + gr (Int.toNat x2 + ar)))
 then (bif (lim IntKind.i64 (x1 + gr (Int.toNat x2 + ar)))
 then (bif (lim IntKind.i64 (x2 + (1 : Int)))
 then (some (.inl (.h0 (x0 + gr (Int.toNat x2 + ar)) (x1 + gr (Int.toNat x2 + ar)) (x2 + (1 : Int)))))
 else (none))
 else (none))
 else (none))
 else (bif (decide (v ≤ vr (Int.toNat x2 + ar)))
 then (bif (lim IntKind.i64 (x2 + (1 : Int)))
 then (some (.inl (.h0 (x0) (x1) (x2 + (1 : Int)))))
 else (none))
 else (bif (lim IntKind.i64 (x1 + gr (Int.toNat x2 + ar)))
 then (bif (lim IntKind.i64 (x2 + (1 : Int)))
 then (some (.inl (.h0 (x0) (x1 + gr (Int.toNat x2 + ar)) (x2 + (1 : Int)))))
 else (none))
 else (none))))
 else (none))
 else (none))
 else (some (.inr (x0, x1, (0 : Int))))
noncomputable def p33 (ar nr mr : Nat) (tr : Nat → Int) (vr : Nat → Int) (gr : Nat → Int) (ao no mo : Nat) (to : Nat → Bool) (v : Int) : Option (St33 ⊕ Rt33) := bif (decide (ar + nr ≤ mr ∧ nr ≤ 1000000))
 then (bif (S.magE nr (fun (j : Nat) => tr (j + ar)) (fun (j : Nat) => vr (j + ar)) (fun (j : Nat) => gr (j + ar)) no !=
 (0 : Int))
 then (some (.inr ((0 : Int), (0 : Int), S.magE nr (fun (j : Nat) => tr (j + ar)) (fun (j : Nat) => vr (j + ar)) (fun (j : Nat) => gr (j + ar)) no)))
 else (bif (decide (v < (-1099511627776 : Int)))
 then (some (.inr ((0 : Int), (0 : Int), (6 : Int))))
 else (bif (decide (v > (1099511627776 : Int)))
 then (some (.inr ((0 : Int), (0 : Int), (6 : Int))))
 else (some (.inl (.h0 ((0 : Int)) ((0 : Int)) ((0 : Int))))))))
 else (none)
noncomputable def Te33 (test : Bool → Prop → Prop → Prop) (Kst : KS) (Kret : KR) (ar nr mr : Nat) (tr : Nat → Int) (vr : Nat → Int) (gr : Nat → Int) (ao no mo : Nat) (to : Nat → Bool) (v : Int) : Prop :=
  test (decide (ar + nr ≤ mr ∧ nr ≤ 1000000))
 (test (S.magE nr (fun (j : Nat) => tr (j + ar)) (fun (j : Nat) => vr (j + ar)) (fun (j : Nat) => gr (j + ar)) no !=
 (0 : Int))
 (Kret (PV.tup
 [PV.int IntKind.i64 (0 : Int), PV.int IntKind.i64 (0 : Int),
 PV.int IntKind.i64
 (S.magE nr (fun (j : Nat) => tr (j + ar)) (fun (j : Nat) => vr (j + ar)) (fun (j : Nat) => gr (j + ar)) no)]) ([[(1, false, Blk.cols mo [Col.bool to]),
 (0, false,
 Blk.cols mr
 [Col.int IntKind.i64 tr, Col.int IntKind.i64 vr, Col.int IntKind.i64 gr])]]) (4))
 (test (decide (v < (-1099511627776 : Int)))
 (Kret (PV.tup
 [PV.int IntKind.i64 (0 : Int), PV.int IntKind.i64 (0 : Int), PV.int IntKind.i64 (6 : Int)]) ([[(1, false, Blk.cols mo [Col.bool to]),
 (0, false,
 Blk.cols mr
 [Col.int IntKind.i64 tr, Col.int IntKind.i64 vr, Col.int IntKind.i64 gr])]]) (4))
 (test (decide (v > (1099511627776 : Int)))
 (Kret (PV.tup
 [PV.int IntKind.i64 (0 : Int), PV.int IntKind.i64 (0 : Int), PV.int IntKind.i64 (6 : Int)]) ([[(1, false, Blk.cols mo [Col.bool to]),
 (0, false,
 Blk.cols mr
 [Col.int IntKind.i64 tr, Col.int IntKind.i64 vr, Col.int IntKind.i64 gr])]]) (4))
 (Kst (hd Try.f33 0) ([PV.int IntKind.i64 v, PV.ptr (PA.mk (2) (0) (0) (0)),
 PV.int IntKind.i64 (0 : Int), PV.int IntKind.i64 (0 : Int), PV.int IntKind.i64 (0 : Int)]) ([[(1, false, Blk.cols mo [Col.bool to]),
 (0, false,
 Blk.cols mr
 [Col.int IntKind.i64 tr, Col.int IntKind.i64 vr, Col.int IntKind.i64 gr]),
 (2, true,
 Blk.cells
 [PV.loose (PA.mk (0) (3) ar (0)) nr,
 PV.loose (PA.mk (1) (1) ao (0)) no])]]) (4)))))
 (False)
set_option maxRecDepth 100000 in
theorem te33 (test : Bool → Prop → Prop → Prop) (Kst : KS) (Kret : KR) (ar nr mr : Nat) (tr : Nat → Int) (vr : Nat → Int) (gr : Nat → Int) (ao no mo : Nat) (to : Nat → Bool) (v : Int) : run test Try.env true (yA7 test) true 400 ⟨33, [.cd (mkFn Try.f33).body], argT 0 [.agg [.loose ⟨0, 3, ar, 0⟩ nr, .loose ⟨1, 1, ao, 0⟩ no], .int .i64 v], [[], [(0, (false, .cols mr [.int .i64 tr, .int .i64 vr, .int .i64 gr])), (1, (false, .cols mo [.bool to]))]], 2⟩ (proj 2 [1, 2, 8, 9, 10] Kst Kret) =
  Te33 test Kst Kret ar nr mr tr vr gr ao no mo to v := by kernel_rfl
noncomputable def T33_0 (test : Bool → Prop → Prop → Prop) (Kst : KS) (Kret : KR) (ar nr mr : Nat) (tr : Nat → Int) (vr : Nat → Int) (gr : Nat → Int) (ao no mo : Nat) (to : Nat → Bool) (v : Int) (x0 : Int) (x1 : Int) (x2 : Int) : Prop :=
  test (decide (x2 < (↑nr : Int)))
 (test (decide ((0 : Int) ≤ x2 ∧ x2 < (↑nr : Int)))
 (test (decide (Int.toNat x2 + ar < mr))
 (test (decide (Int.toNat x2 + ar < mr))
 (test (decide (Int.toNat x2 + ar < mr))
 (test (decide (v ≥ tr (Int.toNat x2 + ar)))
 (test (decide ((0 : Int) ≤ x2 ∧ x2 < (↑nr : Int)))
 (test (decide (Int.toNat x2 + ar < mr))
 (test (lim IntKind.i64 (x0 + gr (Int.toNat x2 + ar)))
 (test (decide ((0 : Int) ≤ x2 ∧ x2 < (↑nr : Int)))
 (test (decide (Int.toNat x2 + ar < mr))
 (test (decide (Int.toNat x2 + ar < mr))
 (test (decide (Int.toNat x2 + ar < mr))
 (test (decide (v ≥ tr (Int.toNat x2 + ar)))
 (test (decide ((0 : Int) ≤ x2 ∧ x2 < (↑nr : Int)))
 (test (decide (Int.toNat x2 + ar < mr))
 (test (lim IntKind.i64 (x1 + gr (Int.toNat x2 + ar)))
 (test (lim IntKind.i64 (x2 + (1 : Int)))
 (Kst (hd Try.f33 0) ([PV.int IntKind.i64 v, PV.ptr (PA.mk (2) (0) (0) (0)),
 PV.int IntKind.i64 (x0 + gr (Int.toNat x2 + ar)), PV.int IntKind.i64 (x1 + gr (Int.toNat x2 + ar)),
 PV.int IntKind.i64 (x2 + (1 : Int))]) ([[(1, false, Blk.cols mo [Col.bool to]),
 (0, false,
 Blk.cols mr
 [Col.int IntKind.i64 tr, Col.int IntKind.i64 vr, Col.int IntKind.i64 gr]),
 (2, true,
 Blk.cells
 [PV.loose (PA.mk (0) (3) ar (0)) nr,
 PV.loose (PA.mk (1) (1) ao (0)) no])]]) (5))
 (False))
 (False))
 (False))
 (False))
 (test (decide (v ≤ vr (Int.toNat x2 + ar)))
 (test (lim IntKind.i64 (x2 + (1 : Int)))
 (Kst (hd Try.f33 0) ([PV.int IntKind.i64 v, PV.ptr (PA.mk (2) (0) (0) (0)),
 PV.int IntKind.i64 (x0 + gr (Int.toNat x2 + ar)), PV.int IntKind.i64 x1,
 PV.int IntKind.i64 (x2 + (1 : Int))]) ([[(1, false, Blk.cols mo [Col.bool to]),
 (0, false,
 Blk.cols mr
 [Col.int IntKind.i64 tr, Col.int IntKind.i64 vr, Col.int IntKind.i64 gr]),
 (2, true,
 Blk.cells
 [PV.loose (PA.mk (0) (3) ar (0)) nr,
 PV.loose (PA.mk (1) (1) ao (0)) no])]]) (5))
 (False))
 (test (decide ((0 : Int) ≤ x2 ∧ x2 < (↑nr : Int)))
 (test (decide (Int.toNat x2 + ar < mr))
 (test (lim IntKind.i64 (x1 + gr (Int.toNat x2 + ar)))
 (test (lim IntKind.i64 (x2 + (1 : Int)))
 (Kst (hd Try.f33 0) ([PV.int IntKind.i64 v, PV.ptr (PA.mk (2) (0) (0) (0)),
 PV.int IntKind.i64 (x0 + gr (Int.toNat x2 + ar)), PV.int IntKind.i64 (x1 + gr (Int.toNat x2 + ar)),
 PV.int IntKind.i64 (x2 + (1 : Int))]) ([[(1, false, Blk.cols mo [Col.bool to]),
 (0, false,
 Blk.cols mr
 [Col.int IntKind.i64 tr, Col.int IntKind.i64 vr, Col.int IntKind.i64 gr]),
 (2, true,
 Blk.cells
 [PV.loose (PA.mk (0) (3) ar (0)) nr,
 PV.loose (PA.mk (1) (1) ao (0)) no])]]) (5))
 (False))
 (False))
 (False))
 (False))))
 (False))
 (False))
 (False))
 (False))
 (False))
 (False))
 (False))
 (test (decide (v ≤ vr (Int.toNat x2 + ar)))
 (test (decide ((0 : Int) ≤ x2 ∧ x2 < (↑nr : Int)))
 (test (decide (Int.toNat x2 + ar < mr))
 (test (decide (Int.toNat x2 + ar < mr))
 (test (decide (Int.toNat x2 + ar < mr))
 (test (decide (v ≥ tr (Int.toNat x2 + ar)))
 (test (decide ((0 : Int) ≤ x2 ∧ x2 < (↑nr : Int)))
 (test (decide (Int.toNat x2 + ar < mr))
 (test (lim IntKind.i64 (x1 + gr (Int.toNat x2 + ar)))
 (test (lim IntKind.i64 (x2 + (1 : Int)))
 (Kst (hd Try.f33 0) ([PV.int IntKind.i64 v, PV.ptr (PA.mk (2) (0) (0) (0)),
 PV.int IntKind.i64 x0, PV.int IntKind.i64 (x1 + gr (Int.toNat x2 + ar)),
 PV.int IntKind.i64 (x2 + (1 : Int))]) ([[(1, false, Blk.cols mo [Col.bool to]),
 (0, false,
 Blk.cols mr
 [Col.int IntKind.i64 tr, Col.int IntKind.i64 vr, Col.int IntKind.i64 gr]),
 (2, true,
 Blk.cells
 [PV.loose (PA.mk (0) (3) ar (0)) nr,
 PV.loose (PA.mk (1) (1) ao (0)) no])]]) (5))
 (False))
 (False))
 (False))
 (False))
 (test (decide (v ≤ vr (Int.toNat x2 + ar)))
 (test (lim IntKind.i64 (x2 + (1 : Int)))
 (Kst (hd Try.f33 0) ([PV.int IntKind.i64 v, PV.ptr (PA.mk (2) (0) (0) (0)),
 PV.int IntKind.i64 x0, PV.int IntKind.i64 x1, PV.int IntKind.i64 (x2 + (1 : Int))]) ([[(1, false, Blk.cols mo [Col.bool to]),
 (0, false,
 Blk.cols mr
 [Col.int IntKind.i64 tr, Col.int IntKind.i64 vr, Col.int IntKind.i64 gr]),
 (2, true,
 Blk.cells
 [PV.loose (PA.mk (0) (3) ar (0)) nr,
 PV.loose (PA.mk (1) (1) ao (0)) no])]]) (5))
 (False))
 (test (decide ((0 : Int) ≤ x2 ∧ x2 < (↑nr : Int)))
 (test (decide (Int.toNat x2 + ar < mr))
 (test (lim IntKind.i64 (x1 + gr (Int.toNat x2 + ar)))
 (test (lim IntKind.i64 (x2 + (1 : Int)))
 (Kst (hd Try.f33 0) ([PV.int IntKind.i64 v, PV.ptr (PA.mk (2) (0) (0) (0)),
 PV.int IntKind.i64 x0, PV.int IntKind.i64 (x1 + gr (Int.toNat x2 + ar)),
 PV.int IntKind.i64 (x2 + (1 : Int))]) ([[(1, false, Blk.cols mo [Col.bool to]),
 (0, false,
 Blk.cols mr
 [Col.int IntKind.i64 tr, Col.int IntKind.i64 vr, Col.int IntKind.i64 gr]),
 (2, true,
 Blk.cells
 [PV.loose (PA.mk (0) (3) ar (0)) nr,
 PV.loose (PA.mk (1) (1) ao (0)) no])]]) (5))
 (False))
 (False))
 (False))
 (False))))
 (False))
 (False))
 (False))
 (False))
 (test (decide ((0 : Int) ≤ x2 ∧ x2 < (↑nr : Int)))
 (test (decide (Int.toNat x2 + ar < mr))
 (test (decide (Int.toNat x2 + ar < mr))
 (test (decide (Int.toNat x2 + ar < mr))
 (test (decide (v ≥ tr (Int.toNat x2 + ar)))
 (test (decide ((0 : Int) ≤ x2 ∧ x2 < (↑nr : Int)))
 (test (decide (Int.toNat x2 + ar < mr))
 (test (lim IntKind.i64 (x1 + gr (Int.toNat x2 + ar)))
 (test (lim IntKind.i64 (x2 + (1 : Int)))
 (Kst (hd Try.f33 0) ([PV.int IntKind.i64 v, PV.ptr (PA.mk (2) (0) (0) (0)),
 PV.int IntKind.i64 x0, PV.int IntKind.i64 (x1 + gr (Int.toNat x2 + ar)),
 PV.int IntKind.i64 (x2 + (1 : Int))]) ([[(1, false, Blk.cols mo [Col.bool to]),
 (0, false,
 Blk.cols mr
 [Col.int IntKind.i64 tr, Col.int IntKind.i64 vr, Col.int IntKind.i64 gr]),
 (2, true,
 Blk.cells
 [PV.loose (PA.mk (0) (3) ar (0)) nr,
 PV.loose (PA.mk (1) (1) ao (0)) no])]]) (5))
 (False))
 (False))
 (False))
 (False))
 (test (decide (v ≤ vr (Int.toNat x2 + ar)))
 (test (lim IntKind.i64 (x2 + (1 : Int)))
 (Kst (hd Try.f33 0) ([PV.int IntKind.i64 v, PV.ptr (PA.mk (2) (0) (0) (0)),
 PV.int IntKind.i64 x0, PV.int IntKind.i64 x1, PV.int IntKind.i64 (x2 + (1 : Int))]) ([[(1, false, Blk.cols mo [Col.bool to]),
 (0, false,
 Blk.cols mr
 [Col.int IntKind.i64 tr, Col.int IntKind.i64 vr, Col.int IntKind.i64 gr]),
 (2, true,
 Blk.cells
 [PV.loose (PA.mk (0) (3) ar (0)) nr,
 PV.loose (PA.mk (1) (1) ao (0)) no])]]) (5))
 (False))
 (test (decide ((0 : Int) ≤ x2 ∧ x2 < (↑nr : Int)))
 (test (decide (Int.toNat x2 + ar < mr))
 (test (lim IntKind.i64 (x1 + gr (Int.toNat x2 + ar)))
 (test (lim IntKind.i64 (x2 + (1 : Int)))
 (Kst (hd Try.f33 0) ([PV.int IntKind.i64 v, PV.ptr (PA.mk (2) (0) (0) (0)),
 PV.int IntKind.i64 x0, PV.int IntKind.i64 (x1 + gr (Int.toNat x2 + ar)),
 PV.int IntKind.i64 (x2 + (1 : Int))]) ([[(1, false, Blk.cols mo [Col.bool to]),
 (0, false,
 Blk.cols mr
 [Col.int IntKind.i64 tr, Col.int IntKind.i64 vr, Col.int IntKind.i64 gr]),
 (2, true,
 Blk.cells
 [PV.loose (PA.mk (0) (3) ar (0)) nr,
 PV.loose (PA.mk (1) (1) ao (0)) no])]]) (5))
 (False))
 (False))
 (False))
 (False))))
 (False))
 (False))
 (False))
 (False))))
 (False))
 (False))
 (False))
 (False))
 (Kret (PV.tup [PV.int IntKind.i64 x0, PV.int IntKind.i64 x1, PV.int IntKind.i64 (0 : Int)]) ([[(1, false, Blk.cols mo [Col.bool to]),
 (0, false,
 Blk.cols mr
 [Col.int IntKind.i64 tr, Col.int IntKind.i64 vr, Col.int IntKind.i64 gr])]]) (3))
set_option maxRecDepth 100000 in
theorem t33_0 (test : Bool → Prop → Prop → Prop) (Kst : KS) (Kret : KR) (ar nr mr : Nat) (tr : Nat → Int) (vr : Nat → Int) (gr : Nat → Int) (ao no mo : Nat) (to : Nat → Bool) (v : Int) (x0 : Int) (x1 : Int) (x2 : Int) : run test Try.env true (yA7 test) true 400 ⟨33, hd Try.f33 0, zipT [1, 2, 8, 9, 10] [PV.int IntKind.i64 v, PV.ptr (PA.mk (2) (0) (0) (0)),
 PV.int IntKind.i64 x0, PV.int IntKind.i64 x1, PV.int IntKind.i64 x2], [[(2, (true, Blk.cells
 [PV.loose (PA.mk (0) (3) ar (0)) nr,
 PV.loose (PA.mk (1) (1) ao (0)) no]))], [(0, (false, .cols mr [.int .i64 tr, .int .i64 vr, .int .i64 gr])), (1, (false, .cols mo [.bool to]))]], 3⟩ (proj 2 [1, 2, 8, 9, 10] Kst Kret) =
  T33_0 test Kst Kret ar nr mr tr vr gr ao no mo to v x0 x1 x2 := by kernel_rfl
set_option maxRecDepth 100000 in
theorem be33 (ar nr mr : Nat) (tr : Nat → Int) (vr : Nat → Int) (gr : Nat → Int) (ao no mo : Nat) (to : Nat → Bool) (v : Int) (Kst : KS) (Kret : KR) (x : St33 ⊕ Rt33) (hS : HS 2 400 ((I33 ar nr mr tr vr gr ao no mo to v)) Kst x) (hR : HR 2 400 ((V33 ar nr mr tr vr gr ao no mo to v)) (fun r => [newL (2 + 1) ((N33 ar nr mr tr vr gr ao no mo to v) r) ++ [(0, (false, .cols mr [.int .i64 tr, .int .i64 vr, .int .i64 gr])), (1, (false, .cols mo [.bool to]))]]) Kret x) (h : (bif (decide (ar + nr ≤ mr ∧ nr ≤ 1000000))
 then (bif (S.magE nr (fun (j : Nat) => tr (j + ar)) (fun (j : Nat) => vr (j + ar)) (fun (j : Nat) => gr (j + ar)) no !=
 (0 : Int))
 then (some (.inr ((0 : Int), (0 : Int), S.magE nr (fun (j : Nat) => tr (j + ar)) (fun (j : Nat) => vr (j + ar)) (fun (j : Nat) => gr (j + ar)) no)))
 else (bif (decide (v < (-1099511627776 : Int)))
 then (some (.inr ((0 : Int), (0 : Int), (6 : Int))))
 else (bif (decide (v > (1099511627776 : Int)))
 then (some (.inr ((0 : Int), (0 : Int), (6 : Int))))
 else (some (.inl (.h0 ((0 : Int)) ((0 : Int)) ((0 : Int))))))))
 else (none) : Option (St33 ⊕ Rt33)) = some x) : Te33 cond Kst Kret ar nr mr tr vr gr ao no mo to v := by
  unfold Te33
  exact bif_split h
   (fun c0 h => bif_split h
   (fun c1 h => ret_at hR _ h (fun n => n) rfl rfl rfl (rn_tup ⟨(rn_int rfl), (rn_int rfl), (rn_int rfl), trivial⟩) rfl (entl_bor (use_lo rfl) rfl rfl (entl_bor (use_lo rfl) rfl rfl entl_nil)))
   (fun c1 h => bif_split h
   (fun c2 h => ret_at hR _ h (fun n => n) rfl rfl rfl (rn_tup ⟨(rn_int rfl), (rn_int rfl), (rn_int rfl), trivial⟩) rfl (entl_bor (use_lo rfl) rfl rfl (entl_bor (use_lo rfl) rfl rfl entl_nil)))
   (fun c2 h => bif_split h
   (fun c3 h => ret_at hR _ h (fun n => n) rfl rfl rfl (rn_tup ⟨(rn_int rfl), (rn_int rfl), (rn_int rfl), trivial⟩) rfl (entl_bor (use_lo rfl) rfl rfl (entl_bor (use_lo rfl) rfl rfl entl_nil)))
   (fun c3 h => stop_at hS _ h (fun n => bif Nat.beq n 2 then 2 else n) rfl rfl rfl ⟨(rn_int rfl), ⟨(rn_ptr (use_own rfl) rfl rfl), ⟨(rn_int rfl), ⟨(rn_int rfl), ⟨(rn_int rfl), trivial⟩⟩⟩⟩⟩ rfl (entl_b (use_own rfl) rfl (by simp) (rb_cells ⟨(rn_loose (use_lo rfl) rfl rfl rfl), (rn_loose (use_lo rfl) rfl rfl rfl), trivial⟩) (entl_bor (use_lo rfl) rfl rfl (entl_bor (use_lo rfl) rfl rfl entl_nil)))))))
   (fun c0 h => no_some h)
set_option maxRecDepth 100000 in
theorem b33_0 (ar nr mr : Nat) (tr : Nat → Int) (vr : Nat → Int) (gr : Nat → Int) (ao no mo : Nat) (to : Nat → Bool) (v : Int) (Kst : KS) (Kret : KR) (x : St33 ⊕ Rt33) (hS : HS 2 400 ((I33 ar nr mr tr vr gr ao no mo to v)) Kst x) (hR : HR 2 400 ((V33 ar nr mr tr vr gr ao no mo to v)) (fun r => [newL (2 + 1) ((N33 ar nr mr tr vr gr ao no mo to v) r) ++ [(0, (false, .cols mr [.int .i64 tr, .int .i64 vr, .int .i64 gr])), (1, (false, .cols mo [.bool to]))]]) Kret x) (x0 : Int) (x1 : Int) (x2 : Int) (h : (bif (decide (x2 < (↑nr : Int)))
 then (bif (decide ((0 : Int) ≤ x2 ∧ x2 < (↑nr : Int)))
 then (bif (decide (Int.toNat x2 + ar < mr))
 then (bif (decide (v ≥ tr (Int.toNat x2 + ar)))
 then (bif (lim IntKind.i64 (x0 + gr (Int.toNat x2 + ar)))
 then (bif (lim IntKind.i64 (x1 + gr (Int.toNat x2 + ar)))
 then (bif (lim IntKind.i64 (x2 + (1 : Int)))
 then (some (.inl (.h0 (x0 + gr (Int.toNat x2 + ar)) (x1 + gr (Int.toNat x2 + ar)) (x2 + (1 : Int)))))
 else (none))
 else (none))
 else (none))
 else (bif (decide (v ≤ vr (Int.toNat x2 + ar)))
 then (bif (lim IntKind.i64 (x2 + (1 : Int)))
 then (some (.inl (.h0 (x0) (x1) (x2 + (1 : Int)))))
 else (none))
 else (bif (lim IntKind.i64 (x1 + gr (Int.toNat x2 + ar)))
 then (bif (lim IntKind.i64 (x2 + (1 : Int)))
 then (some (.inl (.h0 (x0) (x1 + gr (Int.toNat x2 + ar)) (x2 + (1 : Int)))))
 else (none))
 else (none))))
 else (none))
 else (none))
 else (some (.inr (x0, x1, (0 : Int)))) : Option (St33 ⊕ Rt33)) = some x) : T33_0 cond Kst Kret ar nr mr tr vr gr ao no mo to v x0 x1 x2 := by
  unfold T33_0
  exact bif_split h
   (fun c0 h => bif_split h
   (fun c1 h => bif_split h
   (fun c2 h => cond_yes c2 (cond_yes c2 (bif_split h
   (fun c3 h => cond_yes c1 (cond_yes c2 (bif_split h
   (fun c4 h => cond_yes c1 (cond_yes c2 (cond_yes c2 (cond_yes c2 (cond_yes c3 (cond_yes c1 (cond_yes c2 (bif_split h
   (fun c5 h => bif_split h
   (fun c6 h => stop_at hS _ h (fun n => bif Nat.beq n 2 then 2 else n) rfl rfl rfl ⟨(rn_int rfl), ⟨(rn_ptr (use_own rfl) rfl rfl), ⟨(rn_int rfl), ⟨(rn_int rfl), ⟨(rn_int rfl), trivial⟩⟩⟩⟩⟩ rfl (entl_b (use_own rfl) rfl (by simp) (rb_cells ⟨(rn_loose (use_lo rfl) rfl rfl rfl), (rn_loose (use_lo rfl) rfl rfl rfl), trivial⟩) (entl_bor (use_lo rfl) rfl rfl (entl_bor (use_lo rfl) rfl rfl entl_nil))))
   (fun c6 h => no_some h))
   (fun c5 h => no_some h)))))))))
   (fun c4 h => no_some h))))
   (fun c3 h => bif_split h
   (fun c4 h => cond_yes c1 (cond_yes c2 (cond_yes c2 (cond_yes c2 (cond_no c3 (cond_yes c4 (bif_split h
   (fun c5 h => stop_at hS _ h (fun n => bif Nat.beq n 2 then 2 else n) rfl rfl rfl ⟨(rn_int rfl), ⟨(rn_ptr (use_own rfl) rfl rfl), ⟨(rn_int rfl), ⟨(rn_int rfl), ⟨(rn_int rfl), trivial⟩⟩⟩⟩⟩ rfl (entl_b (use_own rfl) rfl (by simp) (rb_cells ⟨(rn_loose (use_lo rfl) rfl rfl rfl), (rn_loose (use_lo rfl) rfl rfl rfl), trivial⟩) (entl_bor (use_lo rfl) rfl rfl (entl_bor (use_lo rfl) rfl rfl entl_nil))))
   (fun c5 h => no_some h))))))))
   (fun c4 h => cond_yes c1 (cond_yes c2 (cond_yes c2 (cond_yes c2 (cond_no c3 (cond_no c4 (cond_yes c1 (cond_yes c2 (bif_split h
   (fun c5 h => bif_split h
   (fun c6 h => stop_at hS _ h (fun n => bif Nat.beq n 2 then 2 else n) rfl rfl rfl ⟨(rn_int rfl), ⟨(rn_ptr (use_own rfl) rfl rfl), ⟨(rn_int rfl), ⟨(rn_int rfl), ⟨(rn_int rfl), trivial⟩⟩⟩⟩⟩ rfl (entl_b (use_own rfl) rfl (by simp) (rb_cells ⟨(rn_loose (use_lo rfl) rfl rfl rfl), (rn_loose (use_lo rfl) rfl rfl rfl), trivial⟩) (entl_bor (use_lo rfl) rfl rfl (entl_bor (use_lo rfl) rfl rfl entl_nil))))
   (fun c6 h => no_some h))
   (fun c5 h => no_some h))))))))))))))
   (fun c2 h => no_some h))
   (fun c1 h => no_some h))
   (fun c0 h => ret_at hR _ h (fun n => n) rfl rfl rfl (rn_tup ⟨(rn_int rfl), (rn_int rfl), (rn_int rfl), trivial⟩) rfl (entl_bor (use_lo rfl) rfl rfl (entl_bor (use_lo rfl) rfl rfl entl_nil)))
theorem a33 (ar nr mr : Nat) (tr : Nat → Int) (vr : Nat → Int) (gr : Nat → Int) (ao no mo : Nat) (to : Nat → Bool) (v : Int) {r : Rt33} (h : Goes ((q33 ar nr mr tr vr gr ao no mo to v)) ((p33 ar nr mr tr vr gr ao no mo to v)) r) : CallR Try.prog 33 [.agg [.loose ⟨0, 3, ar, 0⟩ nr, .loose ⟨1, 1, ao, 0⟩ no], .int .i64 v] [[(0, (false, .cols mr [.int .i64 tr, .int .i64 vr, .int .i64 gr])), (1, (false, .cols mo [.bool to]))]] 2 ((V33 ar nr mr tr vr gr ao no mo to v) r) ((fun r => [newL (2 + 1) ((N33 ar nr mr tr vr gr ao no mo to v) r) ++ [(0, (false, .cols mr [.int .i64 tr, .int .i64 vr, .int .i64 gr])), (1, (false, .cols mo [.bool to]))]]) r) 400 ∧ ∃ F, Try.prog.funcs[33]? = some F ∧ F.body.isSome = true ∧ (F.name == "runtime.NumGoroutine") = false := by
  refine dec_calls (f := 33) (lo := 2) (hi := 400) (H := [[(0, (false, .cols mr [.int .i64 tr, .int .i64 vr, .int .i64 gr])), (1, (false, .cols mo [.bool to]))]]) (args := [.agg [.loose ⟨0, 3, ar, 0⟩ nr, .loose ⟨1, 1, ao, 0⟩ no], .int .i64 v]) Try.envOk Try.mixed yA7_ok ((I33 ar nr mr tr vr gr ao no mo to v)) ((V33 ar nr mr tr vr gr ao no mo to v)) (fun r => [newL (2 + 1) ((N33 ar nr mr tr vr gr ao no mo to v) r) ++ [(0, (false, .cols mr [.int .i64 tr, .int .i64 vr, .int .i64 gr])), (1, (false, .cols mo [.bool to]))]]) (fn := mkFn Try.f33) (ts := [1, 2, 8, 9, 10]) (n := 400) rfl (by decide) (by simp) (names_of rfl) ?_ ?_ ?_ h
  · intro s; cases s <;> exact ⟨hd_ok _ _, by simp [I33], names_of rfl, Nat.le_of_ble_eq_true rfl⟩
  · intro Kst Kret x hS hR h
    exact Holds.eq (te33 cond Kst Kret ar nr mr tr vr gr ao no mo to v) (be33 ar nr mr tr vr gr ao no mo to v Kst Kret x hS hR h)
  · intro Kst Kret x hS hR s h
    cases s with
    | h0 x0 x1 x2 => exact Holds.eq (t33_0 cond Kst Kret ar nr mr tr vr gr ao no mo to v x0 x1 x2) (b33_0 ar nr mr tr vr gr ao no mo to v Kst Kret x hS hR x0 x1 x2 h)
noncomputable def k33 : Con := ⟨33, [.agg [.list [.int .i64, .int .i64, .int .i64], .list [.bool]], .one (.plain (.int .i64))], fun (x : ((Nat × Nat × Nat × (Nat → Int) × (Nat → Int) × (Nat → Int) × Unit) × (Nat × Nat × Nat × (Nat → Bool) × Unit) × Unit) × Int × Unit) => (fun (ar nr mr : Nat) (tr : Nat → Int) (vr : Nat → Int) (gr : Nat → Int) (ao no mo : Nat) (to : Nat → Bool) (v : Int) => decide (ar + nr ≤ mr ∧ nr ≤ 1000000 ∧ ao + no ≤ mo ∧ no ≤ 1000000)) x.1.1.1 x.1.1.2.1 x.1.1.2.2.1 x.1.1.2.2.2.1 x.1.1.2.2.2.2.1 x.1.1.2.2.2.2.2.1 x.1.2.1.1 x.1.2.1.2.1 x.1.2.1.2.2.1 x.1.2.1.2.2.2.1 x.2.1, fun (x : ((Nat × Nat × Nat × (Nat → Int) × (Nat → Int) × (Nat → Int) × Unit) × (Nat × Nat × Nat × (Nat → Bool) × Unit) × Unit) × Int × Unit) => (fun (ar nr mr : Nat) (tr : Nat → Int) (vr : Nat → Int) (gr : Nat → Int) (ao no mo : Nat) (to : Nat → Bool) (v : Int) => (V33 ar nr mr tr vr gr ao no mo to v) (S.envS nr (fun j => tr (j + ar)) (fun j => vr (j + ar)) (fun j => gr (j + ar)) no v)) x.1.1.1 x.1.1.2.1 x.1.1.2.2.1 x.1.1.2.2.2.1 x.1.1.2.2.2.2.1 x.1.1.2.2.2.2.2.1 x.1.2.1.1 x.1.2.1.2.1 x.1.2.1.2.2.1 x.1.2.1.2.2.2.1 x.2.1, fun (x : ((Nat × Nat × Nat × (Nat → Int) × (Nat → Int) × (Nat → Int) × Unit) × (Nat × Nat × Nat × (Nat → Bool) × Unit) × Unit) × Int × Unit) => (fun (ar nr mr : Nat) (tr : Nat → Int) (vr : Nat → Int) (gr : Nat → Int) (ao no mo : Nat) (to : Nat → Bool) (v : Int) => (N33 ar nr mr tr vr gr ao no mo to v) (S.envS nr (fun j => tr (j + ar)) (fun j => vr (j + ar)) (fun j => gr (j + ar)) no v)) x.1.1.1 x.1.1.2.1 x.1.1.2.2.1 x.1.1.2.2.2.1 x.1.1.2.2.2.2.1 x.1.1.2.2.2.2.2.1 x.1.2.1.1 x.1.2.1.2.1 x.1.2.1.2.2.1 x.1.2.1.2.2.2.1 x.2.1, fun _ _ => .dead⟩
theorem s33' (ar nr mr : Nat) (tr : Nat → Int) (vr : Nat → Int) (gr : Nat → Int) (ao no mo : Nat) (to : Nat → Bool) (v : Int) (hp : ar + nr ≤ mr ∧ nr ≤ 1000000 ∧ ao + no ≤ mo ∧ no ≤ 1000000) (hv : S.magE nr (fun j => tr (j + ar)) (fun j => vr (j + ar)) (fun j => gr (j + ar)) no = 0) : ∀ (k i : Nat) (fa : Int) (fb : Int), i + k = nr → Holds (fa = S.fldN (fun j => gr (j + ar)) (fun j => decide (v ≥ tr (j + ar))) i) → Holds (fb = S.fldN (fun j => gr (j + ar)) (fun j => decide (v > vr (j + ar))) i) → Comes (q33 ar nr mr tr vr gr ao no mo to v) (.h0 fa fb (i : Int)) ((S.fldN (fun j => gr (j + ar)) (fun j => decide (v ≥ tr (j + ar))) nr, S.fldN (fun j => gr (j + ar)) (fun j => decide (v > vr (j + ar))) nr, 0)) := by
  obtain ⟨hp1, hp2, hp3, hp4⟩ := hp
  intro k
  induction k with
  | zero =>
    intro i fa fb hi efa efb
    obtain ⟨v1, v2, v3, v4⟩ := mag_ok hv
    have g1 : 0 ≤ fa ∧ fa ≤ i * 1073741824 := by rw [efa.get]; exact fld_ge (w := (fun j => gr (j + ar))) (o := (fun j => decide (v ≥ tr (j + ar)))) (n := nr) (fun j hj => by have := v4 j hj; omega) i (by omega)
    have g2 : 0 ≤ fb ∧ fb ≤ i * 1073741824 := by rw [efb.get]; exact fld_ge (w := (fun j => gr (j + ar))) (o := (fun j => decide (v > vr (j + ar)))) (n := nr) (fun j hj => by have := v4 j hj; omega) i (by omega)
    apply Comes.of
    show Goes _ _ _
    unfold q33
    repeat' first
      | with_reducible refine goes_if (fun h => ?_) (fun h => ?_) <;> (try simp only [lim64, decide_eq_true_eq, decide_eq_false_iff_not, Int.toNat_natCast, toNat_pred, toNat_succ, Option.getD_some, Option.getD_none, Bool.not_eq_true', Bool.not_eq_false', Bool.and_eq_true, Bool.or_eq_true, Bool.and_eq_false_iff, Bool.or_eq_false_iff, bne_iff_ne, beq_iff_eq, bne_eq_false_iff_eq, beq_eq_false_iff_ne, ne_eq, not_and, Int.not_le, Int.not_lt, ge_iff_le, gt_iff_lt, Nat.not_lt, Nat.not_le, Bool.not_eq_true, Bool.not_eq_false, Bool.true_eq_false, Bool.false_eq_true, not_false_eq_true, not_true_eq_false] at h)
      | exact goes_none.mpr (by omega)
    all_goals first | (exfalso; omega) | (obtain rfl : nr = i := (by omega); rw [efa.get]; rw [efb.get]; rfl)
  | succ k ih =>
    intro i fa fb hi efa efb
    obtain ⟨v1, v2, v3, v4⟩ := mag_ok hv
    have g1 : 0 ≤ fa ∧ fa ≤ i * 1073741824 := by rw [efa.get]; exact fld_ge (w := (fun j => gr (j + ar))) (o := (fun j => decide (v ≥ tr (j + ar)))) (n := nr) (fun j hj => by have := v4 j hj; omega) i (by omega)
    have g2 : 0 ≤ fb ∧ fb ≤ i * 1073741824 := by rw [efb.get]; exact fld_ge (w := (fun j => gr (j + ar))) (o := (fun j => decide (v > vr (j + ar)))) (n := nr) (fun j hj => by have := v4 j hj; omega) i (by omega)
    have w := v4 i (by omega)
    apply Comes.of
    show Goes _ _ _
    unfold q33
    repeat' first
      | with_reducible refine goes_if (fun h => ?_) (fun h => ?_) <;> (try simp only [lim64, decide_eq_true_eq, decide_eq_false_iff_not, Int.toNat_natCast, toNat_pred, toNat_succ, Option.getD_some, Option.getD_none, Bool.not_eq_true', Bool.not_eq_false', Bool.and_eq_true, Bool.or_eq_true, Bool.and_eq_false_iff, Bool.or_eq_false_iff, bne_iff_ne, beq_iff_eq, bne_eq_false_iff_eq, beq_eq_false_iff_ne, ne_eq, not_and, Int.not_le, Int.not_lt, ge_iff_le, gt_iff_lt, Nat.not_lt, Nat.not_le, Bool.not_eq_true, Bool.not_eq_false, Bool.true_eq_false, Bool.false_eq_true, not_false_eq_true, not_true_eq_false] at h)
      | exact goes_none.mpr (by omega)
    all_goals first
      | (exfalso; omega)
      | (refine ih (i + 1) _ _ (by omega) ⟨?_⟩ ⟨?_⟩ <;> (simp only [S.fldN, Bool.cond_eq_ite, decide_eq_true_eq, ← efa.get, ← efb.get]; (repeat' split) <;> first | rfl | omega | (exfalso; omega) | (exfalso; simp_all; done) | (exfalso; simp_all; omega) | simp_all))
theorem s33 (ar nr mr : Nat) (tr : Nat → Int) (vr : Nat → Int) (gr : Nat → Int) (ao no mo : Nat) (to : Nat → Bool) (v : Int) (hp : ar + nr ≤ mr ∧ nr ≤ 1000000 ∧ ao + no ≤ mo ∧ no ≤ 1000000) : Goes ((q33 ar nr mr tr vr gr ao no mo to v)) ((p33 ar nr mr tr vr gr ao no mo to v)) (S.envS nr (fun j => tr (j + ar)) (fun j => vr (j + ar)) (fun j => gr (j + ar)) no v) := by
  have hone := hist_one (n := nr) (u := (fun j => tr (j + ar))) (d := (fun j => vr (j + ar))) (w := (fun j => gr (j + ar))) (no := no) (x := v)
  unfold S.envS
  by_cases hv : S.magE nr (fun j => tr (j + ar)) (fun j => vr (j + ar)) (fun j => gr (j + ar)) no = 0
  · have hm := s33' ar nr mr tr vr gr ao no mo to v hp hv nr 0 0 0 (by omega) ⟨rfl⟩ ⟨rfl⟩
    obtain ⟨hp1, hp2, hp3, hp4⟩ := hp
    rw [if_pos hv] at hone ⊢
    by_cases hx : -1099511627776 ≤ v ∧ v ≤ 1099511627776
    · rw [if_pos hx] at hone ⊢
      show Goes _ _ _
      unfold p33
      try rw [hone]
      repeat' first
        | with_reducible refine goes_if (fun h => ?_) (fun h => ?_) <;> (try simp only [lim64, decide_eq_true_eq, decide_eq_false_iff_not, Int.toNat_natCast, toNat_pred, toNat_succ, Option.getD_some, Option.getD_none, Bool.not_eq_true', Bool.not_eq_false', Bool.and_eq_true, Bool.or_eq_true, Bool.and_eq_false_iff, Bool.or_eq_false_iff, bne_iff_ne, beq_iff_eq, bne_eq_false_iff_eq, beq_eq_false_iff_ne, ne_eq, not_and, Int.not_le, Int.not_lt, ge_iff_le, gt_iff_lt, Nat.not_lt, Nat.not_le, Bool.not_eq_true, Bool.not_eq_false, Bool.true_eq_false, Bool.false_eq_true, not_false_eq_true, not_true_eq_false] at h)
        | exact goes_none.mpr (by omega)
      all_goals first | (exfalso; omega) | exact hm
    · rw [if_neg hx] at hone ⊢
      show Goes _ _ _
      unfold p33
      try rw [hone]
      repeat' first
        | with_reducible refine goes_if (fun h => ?_) (fun h => ?_) <;> (try simp only [lim64, decide_eq_true_eq, decide_eq_false_iff_not, Int.toNat_natCast, toNat_pred, toNat_succ, Option.getD_some, Option.getD_none, Bool.not_eq_true', Bool.not_eq_false', Bool.and_eq_true, Bool.or_eq_true, Bool.and_eq_false_iff, Bool.or_eq_false_iff, bne_iff_ne, beq_iff_eq, bne_eq_false_iff_eq, beq_eq_false_iff_ne, ne_eq, not_and, Int.not_le, Int.not_lt, ge_iff_le, gt_iff_lt, Nat.not_lt, Nat.not_le, Bool.not_eq_true, Bool.not_eq_false, Bool.true_eq_false, Bool.false_eq_true, not_false_eq_true, not_true_eq_false] at h)
        | exact goes_none.mpr (by omega)
      all_goals first | (exfalso; omega) | rfl
  · obtain ⟨hp1, hp2, hp3, hp4⟩ := hp
    rw [if_neg hv] at hone ⊢
    show Goes _ _ _
    unfold p33
    try rw [hone]
    repeat' first
      | with_reducible refine goes_if (fun h => ?_) (fun h => ?_) <;> (try simp only [lim64, decide_eq_true_eq, decide_eq_false_iff_not, Int.toNat_natCast, toNat_pred, toNat_succ, Option.getD_some, Option.getD_none, Bool.not_eq_true', Bool.not_eq_false', Bool.and_eq_true, Bool.or_eq_true, Bool.and_eq_false_iff, Bool.or_eq_false_iff, bne_iff_ne, beq_iff_eq, bne_eq_false_iff_eq, beq_eq_false_iff_ne, ne_eq, not_and, Int.not_le, Int.not_lt, ge_iff_le, gt_iff_lt, Nat.not_lt, Nat.not_le, Bool.not_eq_true, Bool.not_eq_false, Bool.true_eq_false, Bool.false_eq_true, not_false_eq_true, not_true_eq_false] at h)
      | exact goes_none.mpr (by omega)
    all_goals first | (exfalso; omega) | (exfalso; exact hv (by assumption)) | rfl

theorem k33_ok : k33.ok Try.prog := by
  intro x hx
  obtain ⟨⟨⟨ar, nr, mr, tr, vr, gr, _⟩, ⟨ao, no, mo, to, _⟩, _⟩, v, _⟩ := x
  obtain ⟨h1, h2⟩ := a33 ar nr mr tr vr gr ao no mo to v (s33 ar nr mr tr vr gr ao no mo to v (of_decide_eq_true hx))
  exact ⟨⟨400, (by decide : 2 + 1 + 0 ≤ 400), h1⟩, h2⟩


end Go.Ev
