/-
  The reference's Slack.
-/
import Derived.Test.YtofnanmggmeleaaG3
import Derived.Test.YtofnanmggmeleaaF1
import Derived.Test.YtofnanmggmeleaaAW
import Derived.Test.YtofnanmggmeleaaE1
namespace Go.Ev
open Go.Proofs
set_option linter.unusedVariables false
set_option linter.unusedSimpArgs false
set_option maxRecDepth 100000
inductive St39 where
  | h0 (x0 : Int) (x1 : Int)
abbrev Rt39 := Int × Int
noncomputable def V39 (al nl ml : Nat) (tl : Nat → ByteArray) (vl : Nat → Int) (gl : Nat → Int) (wl : Nat → Int) (ci : Int) (r : Rt39) : PV := PV.tup [PV.int IntKind.i64 r.1, PV.int IntKind.i64 r.2]
noncomputable def N39 (al nl ml : Nat) (tl : Nat → ByteArray) (vl : Nat → Int) (gl : Nat → Int) (wl : Nat → Int) (ci : Int) (r : Rt39) : List Blk := []
noncomputable def I39 (al nl ml : Nat) (tl : Nat → ByteArray) (vl : Nat → Int) (gl : Nat → Int) (wl : Nat → Int) (ci : Int) : St39 → Hd
  | .h0 x0 x1 => ⟨hd Try.f39 0, [PV.loose (PA.mk (0) (4) al (0)) nl, PV.int IntKind.i64 ci,
 PV.int IntKind.i64 x0, PV.int IntKind.i64 x1], [[], [(0, (false, .cols ml [.str tl, .int .i64 vl, .int .i64 gl, .int .i64 wl]))]], 1⟩
noncomputable def q39 (al nl ml : Nat) (tl : Nat → ByteArray) (vl : Nat → Int) (gl : Nat → Int) (wl : Nat → Int) (ci : Int) : St39 → Option (St39 ⊕ Rt39)
  | .h0 x0 x1 => bif (lim IntKind.i64 (x1 - x0))
 then (bif (decide (x1 - x0 > (1 : Int)))
 then (bif (lim IntKind.i64 (x0 + x1))
 then (bif (lim IntKind.i64 (Int.tdiv (x0 + x1) (2 : Int)))
 then (bif (decide
 (al + nl ≤ ml ∧
 ((0 : Int) ≤ ci ∧ ci < (↑nl : Int)) ∧
 (S.okT nl (fun (j : Nat) => vl (j + al)) (fun (j : Nat) => gl (j + al)) fun (j : Nat) => wl (j + al)) =
 true ∧
 (0 : Int) ≤ Int.tdiv (x0 + x1) (2 : Int) ∧ Int.tdiv (x0 + x1) (2 : Int) ≤ (10000000 : Int)))
 then (bif (decide
 (0 +
 List.length
 (S.withL nl (fun (j : Nat) => tl (j + al)) (fun (j : Nat) => vl (j + al)) (fun (j : Nat) => gl (j + al))
 (fun (j : Nat) => wl (j + al)) (Int.toNat ci) (Int.tdiv (x0 + x1) (2 : Int))) ≤
 List.length
 (S.withL nl (fun (j : Nat) => tl (j + al)) (fun (j : Nat) => vl (j + al)) (fun (j : Nat) => gl (j + al))
 (fun (j : Nat) => wl (j + al)) (Int.toNat ci) (Int.tdiv (x0 + x1) (2 : Int)))))
 then (bif (S.fitS
 (S.tskS
 (List.length
 (S.withL nl (fun (j : Nat) => tl (j + al)) (fun (j : Nat) => vl (j + al)) (fun (j : Nat) => gl (j + al))
 (fun (j : Nat) => wl (j + al)) (Int.toNat ci) (Int.tdiv (x0 + x1) (2 : Int))))
 (fun (j : Nat) =>
 Prod.fst
 (S.at'
 (S.withL nl (fun (j : Nat) => tl (j + al)) (fun (j : Nat) => vl (j + al)) (fun (j : Nat) => gl (j + al))
 (fun (j : Nat) => wl (j + al)) (Int.toNat ci) (Int.tdiv (x0 + x1) (2 : Int)))
 j))
 (fun (j : Nat) =>
 Prod.fst
 (Prod.snd
 (S.at'
 (S.withL nl (fun (j : Nat) => tl (j + al)) (fun (j : Nat) => vl (j + al))
 (fun (j : Nat) => gl (j + al)) (fun (j : Nat) => wl (j + al)) (Int.toNat ci)
 (Int.tdiv (x0 + x1) (2 : Int)))
 j)))
 (fun (j : Nat) =>
 Prod.fst
 (Prod.snd
 (Prod.snd
 (S.at'
 (S.withL nl (fun (j : Nat) => tl (j + al)) (fun (j : Nat) => vl (j + al))
 (fun (j : Nat) => gl (j + al)) (fun (j : Nat) => wl (j + al)) (Int.toNat ci)
 (Int.tdiv (x0 + x1) (2 : Int)))
 j))))
 fun (j : Nat) =>
 Prod.snd
 (Prod.snd
 (Prod.snd
 (S.at'
 (S.withL nl (fun (j : Nat) => tl (j + al)) (fun (j : Nat) => vl (j + al))
 (fun (j : Nat) => gl (j + al)) (fun (j : Nat) => wl (j + al)) (Int.toNat ci)
 (Int.tdiv (x0 + x1) (2 : Int)))
 j))))
 (S.misT
 (List.length
 (S.withL nl (fun (j : Nat) => tl (j + al)) (fun (j : Nat) => vl (j + al)) (fun (j : Nat) => gl (j + al))
 (fun (j : Nat) => wl (j + al)) (Int.toNat ci) (Int.tdiv (x0 + x1) (2 : Int))))
 (fun (j : Nat) =>
 Prod.fst
 (Prod.snd
 (S.at'
 (S.withL nl (fun (j : Nat) => tl (j + al)) (fun (j : Nat) => vl (j + al))
 (fun (j : Nat) => gl (j + al)) (fun (j : Nat) => wl (j + al)) (Int.toNat ci)
 (Int.tdiv (x0 + x1) (2 : Int)))
 j)))
 (fun (j : Nat) =>
 Prod.fst
 (Prod.snd
 (Prod.snd
 (S.at'
 (S.withL nl (fun (j : Nat) => tl (j + al)) (fun (j : Nat) => vl (j + al))
 (fun (j : Nat) => gl (j + al)) (fun (j : Nat) => wl (j + al)) (Int.toNat ci)
 (Int.tdiv (x0 + x1) (2 : Int)))
 j))))
 fun (j : Nat) =>
 Prod.snd
 (Prod.snd
 (Prod.snd
 (S.at'
 (S.withL nl (fun (j : Nat) => tl (j + al)) (fun (j : Nat) => vl (j + al))
 (fun (j : Nat) => gl (j + al)) (fun (j : Nat) => wl (j + al)) (Int.toNat ci)
 (Int.tdiv (x0 + x1) (2 : Int)))
 j)))))
 then (some (.inl (.h0 (Int.tdiv (x0 + x1) (2 : Int)) (x1))))
 else (some (.inl (.h0 (x0) (Int.tdiv (x0 + x1) (2 : Int))))))
 else (none))
 else (none))
 else (none))
 else (none))
 else (some (.inr (x0, (0 : Int)))))
 else (none)
noncomputable def p39 (al nl ml : Nat) (tl : Nat → ByteArray) (vl : Nat → Int) (gl : Nat → Int) (wl : Nat → Int) (ci : Int) : Option (St39 ⊕ Rt39) := bif (decide (al + nl ≤ ml))
 then (bif ((S.tskS nl (fun (j : Nat) => tl (j + al)) (fun (j : Nat) => vl (j + al)) (fun (j : Nat) => gl (j + al))
 fun (j : Nat) => wl (j + al)) !=
 (0 : Int))
 then (some (.inr ((0 : Int), S.tskS nl (fun (j : Nat) => tl (j + al)) (fun (j : Nat) => vl (j + al)) (fun (j : Nat) => gl (j + al))
 fun (j : Nat) => wl (j + al))))
 else (bif (decide (ci < (0 : Int)))
 then (some (.inr ((0 : Int), (6 : Int))))
 else (bif (decide (ci ≥ (↑nl : Int)))
 then (some (.inr ((0 : Int), (6 : Int))))
 else (bif (decide
 (al + nl ≤ ml ∧
 (S.okT nl (fun (j : Nat) => vl (j + al)) (fun (j : Nat) => gl (j + al)) fun (j : Nat) => wl (j + al)) =
 true))
 then (bif (decide
 ((S.misT nl (fun (j : Nat) => vl (j + al)) (fun (j : Nat) => gl (j + al)) fun (j : Nat) => wl (j + al)) ≥
 (0 : Int)))
 then (some (.inr ((0 : Int), (18 : Int))))
 else (some (.inl (.h0 ((0 : Int)) ((1000000 : Int))))))
 else (none)))))
 else (none)
noncomputable def Te39 (test : Bool → Prop → Prop → Prop) (Kst : KS) (Kret : KR) (al nl ml : Nat) (tl : Nat → ByteArray) (vl : Nat → Int) (gl : Nat → Int) (wl : Nat → Int) (ci : Int) : Prop :=
  test (decide (al + nl ≤ ml))
 (test ((S.tskS nl (fun (j : Nat) => tl (j + al)) (fun (j : Nat) => vl (j + al)) (fun (j : Nat) => gl (j + al))
 fun (j : Nat) => wl (j + al)) !=
 (0 : Int))
 (Kret (PV.tup
 [PV.int IntKind.i64 (0 : Int),
 PV.int IntKind.i64
 (S.tskS nl (fun (j : Nat) => tl (j + al)) (fun (j : Nat) => vl (j + al)) (fun (j : Nat) => gl (j + al))
 fun (j : Nat) => wl (j + al))]) ([[(0, false,
 Blk.cols ml
 [Col.str tl, Col.int IntKind.i64 vl, Col.int IntKind.i64 gl,
 Col.int IntKind.i64 wl])]]) (2))
 (test (decide (ci < (0 : Int)))
 (Kret (PV.tup [PV.int IntKind.i64 (0 : Int), PV.int IntKind.i64 (6 : Int)]) ([[(0, false,
 Blk.cols ml
 [Col.str tl, Col.int IntKind.i64 vl, Col.int IntKind.i64 gl,
 Col.int IntKind.i64 wl])]]) (2))
 (test (decide (ci ≥ (↑nl : Int)))
 (Kret (PV.tup [PV.int IntKind.i64 (0 : Int), PV.int IntKind.i64 (6 : Int)]) ([[(0, false,
 Blk.cols ml
 [Col.str tl, Col.int IntKind.i64 vl, Col.int IntKind.i64 gl,
 Col.int IntKind.i64 wl])]]) (2))
 (test (decide
 (al + nl ≤ ml ∧
 (S.okT nl (fun (j : Nat) => vl (j + al)) (fun (j : Nat) => gl (j + al)) fun (j : Nat) => wl (j + al)) =
 true))
 (test (decide
 ((S.misT nl (fun (j : Nat) => vl (j + al)) (fun (j : Nat) => gl (j + al)) fun (j : Nat) => wl (j + al)) ≥
 (0 : Int)))
 (Kret (PV.tup [PV.int IntKind.i64 (0 : Int), PV.int IntKind.i64 (18 : Int)]) ([[(0, false,
 Blk.cols ml
 [Col.str tl, Col.int IntKind.i64 vl, Col.int IntKind.i64 gl,
 Col.int IntKind.i64 wl])]]) (3))
 (Kst (hd Try.f39 0) ([PV.loose (PA.mk (0) (4) al (0)) nl, PV.int IntKind.i64 ci,
 PV.int IntKind.i64 (0 : Int), PV.int IntKind.i64 (1000000 : Int)]) ([[(0, false,
 Blk.cols ml
 [Col.str tl, Col.int IntKind.i64 vl, Col.int IntKind.i64 gl,
 Col.int IntKind.i64 wl])]]) (3)))
 (False)))))
 (False)
set_option maxRecDepth 100000 in
theorem te39 (test : Bool → Prop → Prop → Prop) (Kst : KS) (Kret : KR) (al nl ml : Nat) (tl : Nat → ByteArray) (vl : Nat → Int) (gl : Nat → Int) (wl : Nat → Int) (ci : Int) : run test Try.env true (xW test) true 400 ⟨39, [.cd (mkFn Try.f39).body], argT 0 [.loose ⟨0, 4, al, 0⟩ nl, .int .i64 ci], [[], [(0, (false, .cols ml [.str tl, .int .i64 vl, .int .i64 gl, .int .i64 wl]))]], 1⟩ (proj 1 [0, 1, 7, 8] Kst Kret) =
  Te39 test Kst Kret al nl ml tl vl gl wl ci := by kernel_rfl
noncomputable def T39_0 (test : Bool → Prop → Prop → Prop) (Kst : KS) (Kret : KR) (al nl ml : Nat) (tl : Nat → ByteArray) (vl : Nat → Int) (gl : Nat → Int) (wl : Nat → Int) (ci : Int) (x0 : Int) (x1 : Int) : Prop :=
  test (lim IntKind.i64 (x1 - x0))
 (test (decide (x1 - x0 > (1 : Int)))
 (test (lim IntKind.i64 (x0 + x1))
 (test (false)
 (False)
 (test (lim IntKind.i64 (Int.tdiv (x0 + x1) (2 : Int)))
 (test (decide
 (al + nl ≤ ml ∧
 ((0 : Int) ≤ ci ∧ ci < (↑nl : Int)) ∧
 (S.okT nl (fun (j : Nat) => vl (j + al)) (fun (j : Nat) => gl (j + al)) fun (j : Nat) => wl (j + al)) =
 true ∧
 (0 : Int) ≤ Int.tdiv (x0 + x1) (2 : Int) ∧ Int.tdiv (x0 + x1) (2 : Int) ≤ (10000000 : Int)))
 (test (decide
 (0 +
 List.length
 (S.withL nl (fun (j : Nat) => tl (j + al)) (fun (j : Nat) => vl (j + al)) (fun (j : Nat) => gl (j + al))
 (fun (j : Nat) => wl (j + al)) (Int.toNat ci) (Int.tdiv (x0 + x1) (2 : Int))) ≤
 List.length
 (S.withL nl (fun (j : Nat) => tl (j + al)) (fun (j : Nat) => vl (j + al)) (fun (j : Nat) => gl (j + al))
 (fun (j : Nat) => wl (j + al)) (Int.toNat ci) (Int.tdiv (x0 + x1) (2 : Int)))))
 (test (S.fitS
 (S.tskS
 (List.length
 (S.withL nl (fun (j : Nat) => tl (j + al)) (fun (j : Nat) => vl (j + al)) (fun (j : Nat) => gl (j + al))
 (fun (j : Nat) => wl (j + al)) (Int.toNat ci) (Int.tdiv (x0 + x1) (2 : Int))))
 (fun (j : Nat) =>
 Prod.fst
 (S.at'
 (S.withL nl (fun (j : Nat) => tl (j + al)) (fun (j : Nat) => vl (j + al)) (fun (j : Nat) => gl (j + al))
 (fun (j : Nat) => wl (j + al)) (Int.toNat ci) (Int.tdiv (x0 + x1) (2 : Int)))
 j))
 (fun (j : Nat) =>
 Prod.fst
 (Prod.snd
 (S.at'
 (S.withL nl (fun (j : Nat) => tl (j + al)) (fun (j : Nat) => vl (j + al))
 (fun (j : Nat) => gl (j + al)) (fun (j : Nat) => wl (j + al)) (Int.toNat ci)
 (Int.tdiv (x0 + x1) (2 : Int)))
 j)))
 (fun (j : Nat) =>
 Prod.fst
 (Prod.snd
 (Prod.snd
 (S.at'
 (S.withL nl (fun (j : Nat) => tl (j + al)) (fun (j : Nat) => vl (j + al))
 (fun (j : Nat) => gl (j + al)) (fun (j : Nat) => wl (j + al)) (Int.toNat ci)
 (Int.tdiv (x0 + x1) (2 : Int)))
 j))))
 fun (j : Nat) =>
 Prod.snd
 (Prod.snd
 (Prod.snd
 (S.at'
 (S.withL nl (fun (j : Nat) => tl (j + al)) (fun (j : Nat) => vl (j + al))
 (fun (j : Nat) => gl (j + al)) (fun (j : Nat) => wl (j + al)) (Int.toNat ci)
 (Int.tdiv (x0 + x1) (2 : Int)))
 j))))
 (S.misT
 (List.length
 (S.withL nl (fun (j : Nat) => tl (j + al)) (fun (j : Nat) => vl (j + al)) (fun (j : Nat) => gl (j + al))
 (fun (j : Nat) => wl (j + al)) (Int.toNat ci) (Int.tdiv (x0 + x1) (2 : Int))))
 (fun (j : Nat) =>
 Prod.fst
 (Prod.snd
 (S.at'
 (S.withL nl (fun (j : Nat) => tl (j + al)) (fun (j : Nat) => vl (j + al))
 (fun (j : Nat) => gl (j + al)) (fun (j : Nat) => wl (j + al)) (Int.toNat ci)
 (Int.tdiv (x0 + x1) (2 : Int)))
 j)))
 (fun (j : Nat) =>
 Prod.fst
 (Prod.snd
 (Prod.snd
 (S.at'
 (S.withL nl (fun (j : Nat) => tl (j + al)) (fun (j : Nat) => vl (j + al))
 (fun (j : Nat) => gl (j + al)) (fun (j : Nat) => wl (j + al)) (Int.toNat ci)
 (Int.tdiv (x0 + x1) (2 : Int)))
 j))))
 fun (j : Nat) =>
 Prod.snd
 (Prod.snd
 (Prod.snd
 (S.at'
 (S.withL nl (fun (j : Nat) => tl (j + al)) (fun (j : Nat) => vl (j + al))
 (fun (j : Nat) => gl (j + al)) (fun (j : Nat) => wl (j + al)) (Int.toNat ci)
 (Int.tdiv (x0 + x1) (2 : Int)))
 j)))))
 (Kst (hd Try.f39 0) ([PV.loose (PA.mk (0) (4) al (0)) nl, PV.int IntKind.i64 ci,
 PV.int IntKind.i64 (Int.tdiv (x0 + x1) (2 : Int)), PV.int IntKind.i64 x1]) ([[(0, false,
 Blk.cols ml
 [Col.str tl, Col.int IntKind.i64 vl, Col.int IntKind.i64 gl,
 Col.int IntKind.i64 wl])]]) (4))
 (Kst (hd Try.f39 0) ([PV.loose (PA.mk (0) (4) al (0)) nl, PV.int IntKind.i64 ci,
 PV.int IntKind.i64 x0, PV.int IntKind.i64 (Int.tdiv (x0 + x1) (2 : Int))]) ([[(0, false,
 Blk.cols ml
 [Col.str tl, Col.int IntKind.i64 vl, Col.int IntKind.i64 gl,
 Col.int IntKind.i64 wl])]]) (4)))
 (False))
 (False))
 (False)))
 (False))
 (Kret (PV.tup [PV.int IntKind.i64 x0, PV.int IntKind.i64 (0 : Int)]) ([[(0, false,
 Blk.cols ml
 [Col.str tl, Col.int IntKind.i64 vl, Col.int IntKind.i64 gl,
 Col.int IntKind.i64 wl])]]) (1)))
 (False)
set_option maxRecDepth 100000 in
theorem t39_0 (test : Bool → Prop → Prop → Prop) (Kst : KS) (Kret : KR) (al nl ml : Nat) (tl : Nat → ByteArray) (vl : Nat → Int) (gl : Nat → Int) (wl : Nat → Int) (ci : Int) (x0 : Int) (x1 : Int) : run test Try.env true (xW test) true 400 ⟨39, hd Try.f39 0, zipT [0, 1, 7, 8] [PV.loose (PA.mk (0) (4) al (0)) nl, PV.int IntKind.i64 ci,
 PV.int IntKind.i64 x0, PV.int IntKind.i64 x1], [[], [(0, (false, .cols ml [.str tl, .int .i64 vl, .int .i64 gl, .int .i64 wl]))]], 1⟩ (proj 1 [0, 1, 7, 8] Kst Kret) =
  T39_0 test Kst Kret al nl ml tl vl gl wl ci x0 x1 := by kernel_rfl
attribute [local irreducible] Int.subNatNat in
set_option maxRecDepth 100000 in
theorem be39 (al nl ml : Nat) (tl : Nat → ByteArray) (vl : Nat → Int) (gl : Nat → Int) (wl : Nat → Int) (ci : Int) (Kst : KS) (Kret : KR) (x : St39 ⊕ Rt39) (hS : HS 1 400 ((I39 al nl ml tl vl gl wl ci)) Kst x) (hR : HR 1 400 ((V39 al nl ml tl vl gl wl ci)) (fun r => [newL (1 + 1) ((N39 al nl ml tl vl gl wl ci) r) ++ [(0, (false, .cols ml [.str tl, .int .i64 vl, .int .i64 gl, .int .i64 wl]))]]) Kret x) (h : (bif (decide (al + nl ≤ ml))
 then (bif ((S.tskS nl (fun (j : Nat) => tl (j + al)) (fun (j : Nat) => vl (j + al)) (fun (j : Nat) => gl (j + al))
 fun (j : Nat) => wl (j + al)) !=
 (0 : Int))
 then (some (.inr ((0 : Int), S.tskS nl (fun (j : Nat) => tl (j + al)) (fun (j : Nat) => vl (j + al)) (fun (j : Nat) => gl (j + al))
 fun (j : Nat) => wl (j + al))))
 else (bif (decide (ci < (0 : Int)))
 then (some (.inr ((0 : Int), (6 : Int))))
 else (bif (decide (ci ≥ (↑nl : Int)))
 then (some (.inr ((0 : Int), (6 : Int))))
 else (bif (decide
 (al + nl ≤ ml ∧
 (S.okT nl (fun (j : Nat) => vl (j + al)) (fun (j : Nat) => gl (j + al)) fun (j : Nat) => wl (j + al)) =
 true))
 then (bif (decide
 ((S.misT nl (fun (j : Nat) => vl (j + al)) (fun (j : Nat) => gl (j + al)) fun (j : Nat) => wl (j + al)) ≥
 (0 : Int)))
 then (some (.inr ((0 : Int), (18 : Int))))
 else (some (.inl (.h0 ((0 : Int)) ((1000000 : Int))))))
 else (none)))))
 else (none) : Option (St39 ⊕ Rt39)) = some x) : Te39 cond Kst Kret al nl ml tl vl gl wl ci := by
  unfold Te39
  exact bif_split h
   (fun c0 h => bif_split h
   (fun c1 h => ret_at hR _ h (fun n => n) rfl rfl rfl (rn_tup ⟨(rn_int rfl), (rn_int rfl), trivial⟩) rfl (entl_bor (use_lo rfl) rfl rfl entl_nil))
   (fun c1 h => bif_split h
   (fun c2 h => ret_at hR _ h (fun n => n) rfl rfl rfl (rn_tup ⟨(rn_int rfl), (rn_int rfl), trivial⟩) rfl (entl_bor (use_lo rfl) rfl rfl entl_nil))
   (fun c2 h => bif_split h
   (fun c3 h => ret_at hR _ h (fun n => n) rfl rfl rfl (rn_tup ⟨(rn_int rfl), (rn_int rfl), trivial⟩) rfl (entl_bor (use_lo rfl) rfl rfl entl_nil))
   (fun c3 h => bif_split h
   (fun c4 h => bif_split h
   (fun c5 h => ret_at hR _ h (fun n => n) rfl rfl rfl (rn_tup ⟨(rn_int rfl), (rn_int rfl), trivial⟩) rfl (entl_bor (use_lo rfl) rfl rfl entl_nil))
   (fun c5 h => stop_at hS _ h (fun n => n) rfl rfl rfl ⟨(rn_loose (use_lo rfl) rfl rfl rfl), ⟨(rn_int rfl), ⟨(rn_int rfl), ⟨(rn_int rfl), trivial⟩⟩⟩⟩ rfl (entl_bor (use_lo rfl) rfl rfl entl_nil)))
   (fun c4 h => no_some h)))))
   (fun c0 h => no_some h)
attribute [local irreducible] Int.subNatNat in
set_option maxRecDepth 100000 in
theorem b39_0 (al nl ml : Nat) (tl : Nat → ByteArray) (vl : Nat → Int) (gl : Nat → Int) (wl : Nat → Int) (ci : Int) (Kst : KS) (Kret : KR) (x : St39 ⊕ Rt39) (hS : HS 1 400 ((I39 al nl ml tl vl gl wl ci)) Kst x) (hR : HR 1 400 ((V39 al nl ml tl vl gl wl ci)) (fun r => [newL (1 + 1) ((N39 al nl ml tl vl gl wl ci) r) ++ [(0, (false, .cols ml [.str tl, .int .i64 vl, .int .i64 gl, .int .i64 wl]))]]) Kret x) (x0 : Int) (x1 : Int) (h : (bif (lim IntKind.i64 (x1 - x0))
 then (bif (decide (x1 - x0 > (1 : Int)))
 then (bif (lim IntKind.i64 (x0 + x1))
 then (bif (lim IntKind.i64 (Int.tdiv (x0 + x1) (2 : Int)))
 then (bif (decide
 (al + nl ≤ ml ∧
 ((0 : Int) ≤ ci ∧ ci < (↑nl : Int)) ∧
 (S.okT nl (fun (j : Nat) => vl (j + al)) (fun (j : Nat) => gl (j + al)) fun (j : Nat) => wl (j + al)) =
 true ∧
 (0 : Int) ≤ Int.tdiv (x0 + x1) (2 : Int) ∧ Int.tdiv (x0 + x1) (2 : Int) ≤ (10000000 : Int)))
 then (bif (decide
 (0 +
 List.length
 (S.withL nl (fun (j : Nat) => tl (j + al)) (fun (j : Nat) => vl (j + al)) (fun (j : Nat) => gl (j + al))
 (fun (j : Nat) => wl (j + al)) (Int.toNat ci) (Int.tdiv (x0 + x1) (2 : Int))) ≤
 List.length
 (S.withL nl (fun (j : Nat) => tl (j + al)) (fun (j : Nat) => vl (j + al)) (fun (j : Nat) => gl (j + al))
 (fun (j : Nat) => wl (j + al)) (Int.toNat ci) (Int.tdiv (x0 + x1) (2 : Int)))))
 then (bif (S.fitS
 (S.tskS
 (List.length
 (S.withL nl (fun (j : Nat) => tl (j + al)) (fun (j : Nat) => vl (j + al)) (fun (j : Nat) => gl (j + al))
 (fun (j : Nat) => wl (j + al)) (Int.toNat ci) (Int.tdiv (x0 + x1) (2 : Int))))
 (fun (j : Nat) =>
 Prod.fst
 (S.at'
 (S.withL nl (fun (j : Nat) => tl (j + al)) (fun (j : Nat) => vl (j + al)) (fun (j : Nat) => gl (j + al))
 (fun (j : Nat) => wl (j + al)) (Int.toNat ci) (Int.tdiv (x0 + x1) (2 : Int)))
 j))
 (fun (j : Nat) =>
 Prod.fst
 (Prod.snd
 (S.at'
 (S.withL nl (fun (j : Nat) => tl (j + al)) (fun (j : Nat) => vl (j + al))
 (fun (j : Nat) => gl (j + al)) (fun (j : Nat) => wl (j + al)) (Int.toNat ci)
 (Int.tdiv (x0 + x1) (2 : Int)))
 j)))
 (fun (j : Nat) =>
 Prod.fst
 (Prod.snd
 (Prod.snd
 (S.at'
 (S.withL nl (fun (j : Nat) => tl (j + al)) (fun (j : Nat) => vl (j + al))
 (fun (j : Nat) => gl (j + al)) (fun (j : Nat) => wl (j + al)) (Int.toNat ci)
 (Int.tdiv (x0 + x1) (2 : Int)))
 j))))
 fun (j : Nat) =>
 Prod.snd
 (Prod.snd
 (Prod.snd
 (S.at'
 (S.withL nl (fun (j : Nat) => tl (j + al)) (fun (j : Nat) => vl (j + al))
 (fun (j : Nat) => gl (j + al)) (fun (j : Nat) => wl (j + al)) (Int.toNat ci)
 (Int.tdiv (x0 + x1) (2 : Int)))
 j))))
 (S.misT
 (List.length
 (S.withL nl (fun (j : Nat) => tl (j + al)) (fun (j : Nat) => vl (j + al)) (fun (j : Nat) => gl (j + al))
 (fun (j : Nat) => wl (j + al)) (Int.toNat ci) (Int.tdiv (x0 + x1) (2 : Int))))
 (fun (j : Nat) =>
 Prod.fst
 (Prod.snd
 (S.at'
 (S.withL nl (fun (j : Nat) => tl (j + al)) (fun (j : Nat) => vl (j + al))
 (fun (j : Nat) => gl (j + al)) (fun (j : Nat) => wl (j + al)) (Int.toNat ci)
 (Int.tdiv (x0 + x1) (2 : Int)))
 j)))
 (fun (j : Nat) =>
 Prod.fst
 (Prod.snd
 (Prod.snd
 (S.at'
 (S.withL nl (fun (j : Nat) => tl (j + al)) (fun (j : Nat) => vl (j + al))
 (fun (j : Nat) => gl (j + al)) (fun (j : Nat) => wl (j + al)) (Int.toNat ci)
 (Int.tdiv (x0 + x1) (2 : Int)))
 j))))
 fun (j : Nat) =>
 Prod.snd
 (Prod.snd
 (Prod.snd
 (S.at'
 (S.withL nl (fun (j : Nat) => tl (j + al)) (fun (j : Nat) => vl (j + al))
 (fun (j : Nat) => gl (j + al)) (fun (j : Nat) => wl (j + al)) (Int.toNat ci)
 (Int.tdiv (x0 + x1) (2 : Int)))
 j)))))
 then (some (.inl (.h0 (Int.tdiv (x0 + x1) (2 : Int)) (x1))))
 else (some (.inl (.h0 (x0) (Int.tdiv (x0 + x1) (2 : Int))))))
 else (none))
 else (none))
 else (none))
 else (none))
 else (some (.inr (x0, (0 : Int)))))
 else (none) : Option (St39 ⊕ Rt39)) = some x) : T39_0 cond Kst Kret al nl ml tl vl gl wl ci x0 x1 := by
  unfold T39_0
  exact bif_split h
   (fun c0 h => bif_split h
   (fun c1 h => bif_split h
   (fun c2 h => cond_no rfl (bif_split h
   (fun c3 h => bif_split h
   (fun c4 h => bif_split h
   (fun c5 h => bif_split h
   (fun c6 h => stop_at hS _ h (fun n => n) rfl rfl rfl ⟨(rn_loose (use_lo rfl) rfl rfl rfl), ⟨(rn_int rfl), ⟨(rn_int rfl), ⟨(rn_int rfl), trivial⟩⟩⟩⟩ rfl (entl_bor (use_lo rfl) rfl rfl entl_nil))
   (fun c6 h => stop_at hS _ h (fun n => n) rfl rfl rfl ⟨(rn_loose (use_lo rfl) rfl rfl rfl), ⟨(rn_int rfl), ⟨(rn_int rfl), ⟨(rn_int rfl), trivial⟩⟩⟩⟩ rfl (entl_bor (use_lo rfl) rfl rfl entl_nil)))
   (fun c5 h => no_some h))
   (fun c4 h => no_some h))
   (fun c3 h => no_some h)))
   (fun c2 h => no_some h))
   (fun c1 h => ret_at hR _ h (fun n => n) rfl rfl rfl (rn_tup ⟨(rn_int rfl), (rn_int rfl), trivial⟩) rfl (entl_bor (use_lo rfl) rfl rfl entl_nil)))
   (fun c0 h => no_some h)
theorem a39 (al nl ml : Nat) (tl : Nat → ByteArray) (vl : Nat → Int) (gl : Nat → Int) (wl : Nat → Int) (ci : Int) {r : Rt39} (h : Goes ((q39 al nl ml tl vl gl wl ci)) ((p39 al nl ml tl vl gl wl ci)) r) : CallR Try.prog 39 [.loose ⟨0, 4, al, 0⟩ nl, .int .i64 ci] [[(0, (false, .cols ml [.str tl, .int .i64 vl, .int .i64 gl, .int .i64 wl]))]] 1 ((V39 al nl ml tl vl gl wl ci) r) ((fun r => [newL (1 + 1) ((N39 al nl ml tl vl gl wl ci) r) ++ [(0, (false, .cols ml [.str tl, .int .i64 vl, .int .i64 gl, .int .i64 wl]))]]) r) 400 ∧ ∃ F, Try.prog.funcs[39]? = some F ∧ F.body.isSome = true ∧ (F.name == "runtime.NumGoroutine") = false := by
  refine dec_calls (sy := true) (f := 39) (lo := 1) (hi := 400) (H := [[(0, (false, .cols ml [.str tl, .int .i64 vl, .int .i64 gl, .int .i64 wl]))]]) (args := [.loose ⟨0, 4, al, 0⟩ nl, .int .i64 ci]) Try.envOk Try.mixed xW_ok ((I39 al nl ml tl vl gl wl ci)) ((V39 al nl ml tl vl gl wl ci)) (fun r => [newL (1 + 1) ((N39 al nl ml tl vl gl wl ci) r) ++ [(0, (false, .cols ml [.str tl, .int .i64 vl, .int .i64 gl, .int .i64 wl]))]]) (fn := mkFn Try.f39) (ts := [0, 1, 7, 8]) (n := 400) rfl (by decide) (by simp) (names_of rfl) ?_ ?_ ?_ h
  · intro s; cases s <;> exact ⟨hd_ok _ _, by simp [I39], names_of rfl, Nat.le_of_ble_eq_true rfl⟩
  · intro Kst Kret x hS hR h
    exact Holds.eq (te39 cond Kst Kret al nl ml tl vl gl wl ci) (be39 al nl ml tl vl gl wl ci Kst Kret x hS hR h)
  · intro Kst Kret x hS hR s h
    cases s with
    | h0 x0 x1 => exact Holds.eq (t39_0 cond Kst Kret al nl ml tl vl gl wl ci x0 x1) (b39_0 al nl ml tl vl gl wl ci Kst Kret x hS hR x0 x1 h)
noncomputable def k39 : Con := ⟨39, [.one (.list [.str, .int .i64, .int .i64, .int .i64]), .one (.plain (.int .i64))], fun (x : (Nat × Nat × Nat × (Nat → ByteArray) × (Nat → Int) × (Nat → Int) × (Nat → Int) × Unit) × Int × Unit) => (fun (al nl ml : Nat) (tl : Nat → ByteArray) (vl : Nat → Int) (gl : Nat → Int) (wl : Nat → Int) (ci : Int) => decide (al + nl ≤ ml)) x.1.1 x.1.2.1 x.1.2.2.1 x.1.2.2.2.1 x.1.2.2.2.2.1 x.1.2.2.2.2.2.1 x.1.2.2.2.2.2.2.1 x.2.1, fun (x : (Nat × Nat × Nat × (Nat → ByteArray) × (Nat → Int) × (Nat → Int) × (Nat → Int) × Unit) × Int × Unit) => (fun (al nl ml : Nat) (tl : Nat → ByteArray) (vl : Nat → Int) (gl : Nat → Int) (wl : Nat → Int) (ci : Int) => (V39 al nl ml tl vl gl wl ci) (S.slkS (S.tskS nl (fun j => tl (j + al)) (fun j => vl (j + al)) (fun j => gl (j + al)) (fun j => wl (j + al))) nl ci (S.misT nl (fun j => vl (j + al)) (fun j => gl (j + al)) (fun j => wl (j + al))) (S.firF (fun x => S.slP nl (fun j => vl (j + al)) (fun j => gl (j + al)) (fun j => wl (j + al)) ci.toNat x) (wl (ci.toNat + al) - gl (ci.toNat + al) + 1).toNat 0))) x.1.1 x.1.2.1 x.1.2.2.1 x.1.2.2.2.1 x.1.2.2.2.2.1 x.1.2.2.2.2.2.1 x.1.2.2.2.2.2.2.1 x.2.1, fun (x : (Nat × Nat × Nat × (Nat → ByteArray) × (Nat → Int) × (Nat → Int) × (Nat → Int) × Unit) × Int × Unit) => (fun (al nl ml : Nat) (tl : Nat → ByteArray) (vl : Nat → Int) (gl : Nat → Int) (wl : Nat → Int) (ci : Int) => (N39 al nl ml tl vl gl wl ci) (S.slkS (S.tskS nl (fun j => tl (j + al)) (fun j => vl (j + al)) (fun j => gl (j + al)) (fun j => wl (j + al))) nl ci (S.misT nl (fun j => vl (j + al)) (fun j => gl (j + al)) (fun j => wl (j + al))) (S.firF (fun x => S.slP nl (fun j => vl (j + al)) (fun j => gl (j + al)) (fun j => wl (j + al)) ci.toNat x) (wl (ci.toNat + al) - gl (ci.toNat + al) + 1).toNat 0))) x.1.1 x.1.2.1 x.1.2.2.1 x.1.2.2.2.1 x.1.2.2.2.2.1 x.1.2.2.2.2.2.1 x.1.2.2.2.2.2.2.1 x.2.1, fun _ _ => .dead⟩
theorem s39' (al nl ml : Nat) (tl : Nat → ByteArray) (vl : Nat → Int) (gl : Nat → Int) (wl : Nat → Int) (ci : Int) (hp : al + nl ≤ ml) (he : S.tskS nl (fun j => tl (j + al)) (fun j => vl (j + al)) (fun j => gl (j + al)) (fun j => wl (j + al)) = 0) (hi : 0 ≤ ci ∧ ci < nl) (fr : Int) (hfr : 1 ≤ fr ∧ fr ≤ wl (ci.toNat + al) - gl (ci.toNat + al) + 1) (h1 : ∀ z, 0 ≤ z → z < fr → S.slP nl (fun j => vl (j + al)) (fun j => gl (j + al)) (fun j => wl (j + al)) ci.toNat z = false) (h2 : ∀ z, fr ≤ z → gl (ci.toNat + al) + z ≤ wl (ci.toNat + al) → S.slP nl (fun j => vl (j + al)) (fun j => gl (j + al)) (fun j => wl (j + al)) ci.toNat z = true) : ∀ (k : Nat) (x0 x1 : Int), (x1 - x0).toNat ≤ k → 0 ≤ x0 → x0 < fr → fr ≤ x1 → x1 ≤ 1000000 → Comes (q39 al nl ml tl vl gl wl ci) (.h0 x0 x1) (fr - 1, 0) := by
  obtain ⟨hn, hT⟩ := tskS_ok he
  have hAc : 1 ≤ vl (ci.toNat + al) ∧ vl (ci.toNat + al) ≤ 1000000 ∧ 1 ≤ gl (ci.toNat + al) ∧ gl (ci.toNat + al) ≤ vl (ci.toNat + al) ∧ gl (ci.toNat + al) ≤ wl (ci.toNat + al) ∧ wl (ci.toNat + al) ≤ vl (ci.toNat + al) := (okT_at hT).2 ci.toNat (by omega)
  intro k
  induction k with
  | zero => intro x0 x1 hk h3 h4 h5 h6; omega
  | succ k ih =>
    intro x0 x1 hk h3 h4 h5 h6
    by_cases hlt : x1 - x0 > 1
    · have hh : Int.tdiv (x0 + x1) 2 = (x0 + x1) / 2 := Int.tdiv_eq_ediv_of_nonneg (by omega)
      have hm0 : x0 < (x0 + x1) / 2 ∧ (x0 + x1) / 2 < x1 := by omega
      have hfit := fit_upd (m := (x0 + x1) / 2) he (q := ci.toNat) (by omega) (by omega)
      apply Comes.of
      rw [q39]
      rw [hh, with_tsk, with_mis, with_len, hfit]
      clear hfit hh
      generalize (x0 + x1) / 2 = m at *
      refine goes_ok (by rw [lim64]; exact decide_eq_true (by omega)) ?_
      refine goes_ok (decide_eq_true hlt) ?_
      refine goes_ok (by rw [lim64]; exact decide_eq_true (by omega)) ?_
      refine goes_ok (by rw [lim64]; exact decide_eq_true (by omega)) ?_
      refine goes_ok (decide_eq_true ⟨hp, hi, hT, by omega, by omega⟩) ?_
      refine goes_ok (decide_eq_true (by omega)) ?_
      by_cases hm : m < fr
      · refine goes_ok (decide_eq_true ⟨?_, h1 m (by omega) hm⟩) ?_
        · show gl (ci.toNat + al) + m ≤ wl (ci.toNat + al)
          omega
        · exact ih m x1 (by omega) (by omega) hm h5 h6
      · refine goes_no (decide_eq_false fun hh => ?_) ?_
        · have := h2 m (by omega) hh.1
          rw [this] at hh
          exact Bool.noConfusion hh.2
        · exact ih x0 m (by omega) h3 h4 (by omega) (by omega)
    · apply Comes.of
      rw [q39]
      refine goes_ok (by rw [lim64]; exact decide_eq_true (by omega)) ?_
      refine goes_no (decide_eq_false hlt) ?_
      exact goes_inr.mpr (by rw [show x0 = fr - 1 by omega])
theorem s39 (al nl ml : Nat) (tl : Nat → ByteArray) (vl : Nat → Int) (gl : Nat → Int) (wl : Nat → Int) (ci : Int) (hp : al + nl ≤ ml) : Goes ((q39 al nl ml tl vl gl wl ci)) ((p39 al nl ml tl vl gl wl ci)) (S.slkS (S.tskS nl (fun j => tl (j + al)) (fun j => vl (j + al)) (fun j => gl (j + al)) (fun j => wl (j + al))) nl ci (S.misT nl (fun j => vl (j + al)) (fun j => gl (j + al)) (fun j => wl (j + al))) (S.firF (fun x => S.slP nl (fun j => vl (j + al)) (fun j => gl (j + al)) (fun j => wl (j + al)) ci.toNat x) (wl (ci.toNat + al) - gl (ci.toNat + al) + 1).toNat 0)) := by
  have hmain : S.tskS nl (fun j => tl (j + al)) (fun j => vl (j + al)) (fun j => gl (j + al)) (fun j => wl (j + al)) = 0 → 0 ≤ ci ∧ ci < nl → ¬ 0 ≤ S.misT nl (fun j => vl (j + al)) (fun j => gl (j + al)) (fun j => wl (j + al)) → Comes (q39 al nl ml tl vl gl wl ci) (.h0 0 1000000) (S.firF (fun x => S.slP nl (fun j => vl (j + al)) (fun j => gl (j + al)) (fun j => wl (j + al)) ci.toNat x) (wl (ci.toNat + al) - gl (ci.toNat + al) + 1).toNat 0 - 1, 0) := fun he hi hm => by
    obtain ⟨hn, hT⟩ := tskS_ok he
    have hAc : 1 ≤ vl (ci.toNat + al) ∧ vl (ci.toNat + al) ≤ 1000000 ∧ 1 ≤ gl (ci.toNat + al) ∧ gl (ci.toNat + al) ≤ vl (ci.toNat + al) ∧ gl (ci.toNat + al) ≤ wl (ci.toNat + al) ∧ wl (ci.toNat + al) ≤ vl (ci.toNat + al) := (okT_at hT).2 ci.toNat (by omega)
    obtain ⟨⟨f1, f2⟩, f3, f4⟩ := firF_b (f := fun x => S.slP nl (fun j => vl (j + al)) (fun j => gl (j + al)) (fun j => wl (j + al)) ci.toNat x) (k := (wl (ci.toNat + al) - gl (ci.toNat + al) + 1).toNat) (x := 0)
    have hz : S.slP nl (fun j => vl (j + al)) (fun j => gl (j + al)) (fun j => wl (j + al)) ci.toNat 0 = false := by
      refine decide_eq_false fun h => hm ?_
      rw [misT_congr (p := (fun j => vl (j + al))) (p' := (fun j => vl (j + al))) (c := (fun j => gl (j + al))) (c' := S.updC (fun j => gl (j + al)) ci.toNat 0) (d := (fun j => wl (j + al))) (d' := (fun j => wl (j + al))) (fun j _ => rfl) (fun j _ => ?_) (fun j _ => rfl)]
      · exact h
      · by_cases hj : j = ci.toNat
        · rw [hj, updC_same]; exact (Int.add_zero _).symm
        · rw [updC_ne hj]
    have f5 : 1 ≤ S.firF (fun x => S.slP nl (fun j => vl (j + al)) (fun j => gl (j + al)) (fun j => wl (j + al)) ci.toNat x) (wl (ci.toNat + al) - gl (ci.toNat + al) + 1).toNat 0 := by
      rcases Int.lt_or_le 0 (S.firF (fun x => S.slP nl (fun j => vl (j + al)) (fun j => gl (j + al)) (fun j => wl (j + al)) ci.toNat x) (wl (ci.toNat + al) - gl (ci.toNat + al) + 1).toNat 0) with h | h
      · omega
      · have h0 : S.firF (fun x => S.slP nl (fun j => vl (j + al)) (fun j => gl (j + al)) (fun j => wl (j + al)) ci.toNat x) (wl (ci.toNat + al) - gl (ci.toNat + al) + 1).toNat 0 = 0 := by omega
        have := f4 (by omega)
        rw [h0] at this
        exact Bool.noConfusion (this.symm.trans hz)
    refine s39' al nl ml tl vl gl wl ci hp he hi (S.firF (fun x => S.slP nl (fun j => vl (j + al)) (fun j => gl (j + al)) (fun j => wl (j + al)) ci.toNat x) (wl (ci.toNat + al) - gl (ci.toNat + al) + 1).toNat 0) ⟨f5, by omega⟩ (fun z h1 h2 => f3 z h1 h2) (fun z h1 h2 => ?_) 1000000 0 1000000 (by omega) (Int.le_refl _) (by omega) (by omega) (Int.le_refl _)
    have f6 := f4 (by omega)
    exact slP_mono hT (by omega) (by omega) h1 h2 f6
  unfold p39 S.slkS
  generalize hfr : S.firF (fun x => S.slP nl (fun j => vl (j + al)) (fun j => gl (j + al)) (fun j => wl (j + al)) ci.toNat x) (wl (ci.toNat + al) - gl (ci.toNat + al) + 1).toNat 0 = fr at *
  have hk : S.tskS nl (fun j => tl (j + al)) (fun j => vl (j + al)) (fun j => gl (j + al)) (fun j => wl (j + al)) = 0 → S.okT nl (fun j => vl (j + al)) (fun j => gl (j + al)) (fun j => wl (j + al)) = true := fun h => (tskS_ok h).2
  generalize S.tskS nl (fun j => tl (j + al)) (fun j => vl (j + al)) (fun j => gl (j + al)) (fun j => wl (j + al)) = e at *
  generalize S.misT nl (fun j => vl (j + al)) (fun j => gl (j + al)) (fun j => wl (j + al)) = m at *
  refine goes_ok (decide_eq_true hp) ?_
  by_cases he : e = 0
  · have ho := hk he
    have hm2 := hmain he
    clear hmain
    subst he
    rw [if_pos rfl]
    refine goes_no rfl ?_
    by_cases hi : 0 ≤ ci ∧ ci < nl
    · rw [if_pos hi]
      refine goes_no (decide_eq_false (by omega)) ?_
      refine goes_no (decide_eq_false (by omega)) ?_
      refine goes_ok (decide_eq_true ⟨hp, ho⟩) ?_
      by_cases hm : 0 ≤ m
      · rw [if_pos hm]
        exact goes_ok (decide_eq_true hm) rfl
      · rw [if_neg hm]
        exact goes_no (decide_eq_false (by omega)) (hm2 hi hm)
    · rw [if_neg hi]
      by_cases h0 : ci < 0
      · exact goes_ok (decide_eq_true h0) rfl
      · exact goes_no (decide_eq_false h0) (goes_ok (decide_eq_true (by omega)) rfl)
  · rw [if_neg he]
    exact goes_ok (by simpa using he) rfl

theorem k39_ok : k39.ok Try.prog := by
  intro x hx
  obtain ⟨⟨al, nl, ml, tl, vl, gl, wl, _⟩, ci, _⟩ := x
  obtain ⟨h1, h2⟩ := a39 al nl ml tl vl gl wl ci (s39 al nl ml tl vl gl wl ci (of_dec hx rfl))
  exact ⟨⟨400, (by decide : 1 + 1 + 0 ≤ 400), h1⟩, h2⟩
noncomputable def xL10 (test : Bool → Prop → Prop → Prop) : Ext := consX test [k12, k13, k15, k38, k39, k40, k20]
theorem xL10_ok : ExtOk Try.prog (xL10 cond) := consX_ok ⟨k12_ok, k13_ok, k15_ok, k38_ok, k39_ok, k40_ok, k20_ok, trivial⟩

end Go.Ev
