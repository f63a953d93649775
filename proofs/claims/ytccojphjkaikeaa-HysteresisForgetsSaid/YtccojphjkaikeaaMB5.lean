/-
  Apply, in the program and in the reference.
-/
import Derived.Test.YtccojphjkaikeaaMB3
namespace Go.Ev
open Go.Proofs
set_option linter.unusedVariables false
set_option linter.unusedSimpArgs false
set_option maxRecDepth 100000
noncomputable def yB5 (test : Bool → Prop → Prop → Prop) : Ext := consX test [k24, k22]
theorem yB5_ok : ExtOk Try.prog (yB5 cond) := consX_ok (l := [k24, k22]) ⟨k24_ok, k22_ok, trivial⟩
abbrev St14 := Empty
abbrev Rt14 := List (Int × Int × Int) × List Bool
noncomputable def V14 (ar nr mr : Nat) (tr : Nat → Int) (vr : Nat → Int) (gr : Nat → Int) (ao no mo : Nat) (to : Nat → Bool) (v : Int) (r : Rt14) : PV := PV.tup
 [PV.agg
 [PV.own (3) (3) (List.length r.1), PV.own (4) (1) (List.length r.2)],
 PV.int IntKind.i64
 (Prod.fst
 (S.histS nr (fun (j : Nat) => tr (j + ar)) (fun (j : Nat) => vr (j + ar)) (fun (j : Nat) => gr (j + ar))
 no (fun (j : Nat) => to (j + ao)) (1) fun (j : Nat) => S.lit [v] (0 : Int) j))]
noncomputable def N14 (ar nr mr : Nat) (tr : Nat → Int) (vr : Nat → Int) (gr : Nat → Int) (ao no mo : Nat) (to : Nat → Bool) (v : Int) (r : Rt14) : List Blk := [Blk.cols (List.length r.1)
 [Col.int IntKind.i64 fun (j : Nat) => (S.at' r.1 j).1,
 Col.int IntKind.i64 fun (j : Nat) => (S.at' r.1 j).2.1,
 Col.int IntKind.i64 fun (j : Nat) => (S.at' r.1 j).2.2], Blk.cols (List.length r.2) [Col.bool fun (j : Nat) => S.at' r.2 j]]
noncomputable def I14 (ar nr mr : Nat) (tr : Nat → Int) (vr : Nat → Int) (gr : Nat → Int) (ao no mo : Nat) (to : Nat → Bool) (v : Int) : St14 → Hd := fun s => s.elim
noncomputable def q14 (ar nr mr : Nat) (tr : Nat → Int) (vr : Nat → Int) (gr : Nat → Int) (ao no mo : Nat) (to : Nat → Bool) (v : Int) : St14 → Option (St14 ⊕ Rt14) := fun s => s.elim
noncomputable def p14 (ar nr mr : Nat) (tr : Nat → Int) (vr : Nat → Int) (gr : Nat → Int) (ao no mo : Nat) (to : Nat → Bool) (v : Int) : Option (St14 ⊕ Rt14) := bif (decide
 (ar + nr ≤ mr ∧
 nr ≤ 1000000 ∧ ao + no ≤ mo ∧ no ≤ 1000000 ∧ 1 ≤ 1 ∧ 1 ≤ 1000000))
 then (some (.inr (Prod.fst
 (Prod.snd
 (S.histS nr (fun (j : Nat) => tr (j + ar)) (fun (j : Nat) => vr (j + ar)) (fun (j : Nat) => gr (j + ar)) no
 (fun (j : Nat) => to (j + ao)) (1) fun (j : Nat) => S.lit [v] (0 : Int) j)), Prod.snd
 (Prod.snd
 (S.histS nr (fun (j : Nat) => tr (j + ar)) (fun (j : Nat) => vr (j + ar)) (fun (j : Nat) => gr (j + ar)) no
 (fun (j : Nat) => to (j + ao)) (1) fun (j : Nat) => S.lit [v] (0 : Int) j)))))
 else (none)
noncomputable def Te14 (test : Bool → Prop → Prop → Prop) (Kst : KS) (Kret : KR) (ar nr mr : Nat) (tr : Nat → Int) (vr : Nat → Int) (gr : Nat → Int) (ao no mo : Nat) (to : Nat → Bool) (v : Int) : Prop :=
  test (decide
 (ar + nr ≤ mr ∧
 nr ≤ 1000000 ∧ ao + no ≤ mo ∧ no ≤ 1000000 ∧ 1 ≤ 1 ∧ 1 ≤ 1000000))
 (Kret (PV.tup
 [PV.agg
 [PV.own (6) (3)
 (List.length
 (Prod.fst
 (Prod.snd
 (S.histS nr (fun (j : Nat) => tr (j + ar)) (fun (j : Nat) => vr (j + ar))
 (fun (j : Nat) => gr (j + ar)) no (fun (j : Nat) => to (j + ao)) (1) fun (j : Nat) =>
 S.lit [v] (0 : Int) j)))),
 PV.own (7) (1)
 (List.length
 (Prod.snd
 (Prod.snd
 (S.histS nr (fun (j : Nat) => tr (j + ar)) (fun (j : Nat) => vr (j + ar))
 (fun (j : Nat) => gr (j + ar)) no (fun (j : Nat) => to (j + ao)) (1) fun (j : Nat) =>
 S.lit [v] (0 : Int) j))))],
 PV.int IntKind.i64
 (Prod.fst
 (S.histS nr (fun (j : Nat) => tr (j + ar)) (fun (j : Nat) => vr (j + ar)) (fun (j : Nat) => gr (j + ar))
 no (fun (j : Nat) => to (j + ao)) (1) fun (j : Nat) => S.lit [v] (0 : Int) j))]) ([[(1, false, Blk.cols mo [Col.bool to]),
 (0, false,
 Blk.cols mr
 [Col.int IntKind.i64 tr, Col.int IntKind.i64 vr, Col.int IntKind.i64 gr]),
 (7, true,
 Blk.cols
 (List.length
 (Prod.snd
 (Prod.snd
 (S.histS nr (fun (j : Nat) => tr (j + ar)) (fun (j : Nat) => vr (j + ar))
 (fun (j : Nat) => gr (j + ar)) no (fun (j : Nat) => to (j + ao)) (1) fun (j : Nat) =>
 S.lit [v] (0 : Int) j))))
 [Col.bool fun (j : Nat) =>
 S.at'
 (Prod.snd
 (Prod.snd
 (S.histS nr (fun (j : Nat) => tr (j + ar)) (fun (j : Nat) => vr (j + ar))
 (fun (j : Nat) => gr (j + ar)) no (fun (j : Nat) => to (j + ao)) (1) fun (j : Nat) =>
 S.lit [v] (0 : Int) j)))
 j]),
 (6, true,
 Blk.cols
 (List.length
 (Prod.fst
 (Prod.snd
 (S.histS nr (fun (j : Nat) => tr (j + ar)) (fun (j : Nat) => vr (j + ar))
 (fun (j : Nat) => gr (j + ar)) no (fun (j : Nat) => to (j + ao)) (1) fun (j : Nat) =>
 S.lit [v] (0 : Int) j))))
 [Col.int IntKind.i64 fun (j : Nat) =>
 Prod.fst
 (S.at'
 (Prod.fst
 (Prod.snd
 (S.histS nr (fun (j : Nat) => tr (j + ar)) (fun (j : Nat) => vr (j + ar))
 (fun (j : Nat) => gr (j + ar)) no (fun (j : Nat) => to (j + ao)) (1) fun (j : Nat) =>
 S.lit [v] (0 : Int) j)))
 j),
 Col.int IntKind.i64 fun (j : Nat) =>
 Prod.fst
 (Prod.snd
 (S.at'
 (Prod.fst
 (Prod.snd
 (S.histS nr (fun (j : Nat) => tr (j + ar)) (fun (j : Nat) => vr (j + ar))
 (fun (j : Nat) => gr (j + ar)) no (fun (j : Nat) => to (j + ao)) (1) fun (j : Nat) =>
 S.lit [v] (0 : Int) j)))
 j)),
 Col.int IntKind.i64 fun (j : Nat) =>
 Prod.snd
 (Prod.snd
 (S.at'
 (Prod.fst
 (Prod.snd
 (S.histS nr (fun (j : Nat) => tr (j + ar)) (fun (j : Nat) => vr (j + ar))
 (fun (j : Nat) => gr (j + ar)) no (fun (j : Nat) => to (j + ao)) (1) fun (j : Nat) =>
 S.lit [v] (0 : Int) j)))
 j))])]]) (8))
 (False)
set_option maxRecDepth 100000 in
theorem te14 (test : Bool → Prop → Prop → Prop) (Kst : KS) (Kret : KR) (ar nr mr : Nat) (tr : Nat → Int) (vr : Nat → Int) (gr : Nat → Int) (ao no mo : Nat) (to : Nat → Bool) (v : Int) : run test Try.env true (yB5 test) true 400 ⟨14, [.cd (mkFn Try.f14).body], argT 0 [.agg [.loose ⟨0, 3, ar, 0⟩ nr, .loose ⟨1, 1, ao, 0⟩ no], .int .i64 v], [[], [(0, (false, .cols mr [.int .i64 tr, .int .i64 vr, .int .i64 gr])), (1, (false, .cols mo [.bool to]))]], 2⟩ (proj 2 [] Kst Kret) =
  Te14 test Kst Kret ar nr mr tr vr gr ao no mo to v := by kernel_rfl
set_option maxRecDepth 100000 in
theorem be14 (ar nr mr : Nat) (tr : Nat → Int) (vr : Nat → Int) (gr : Nat → Int) (ao no mo : Nat) (to : Nat → Bool) (v : Int) (Kst : KS) (Kret : KR) (x : St14 ⊕ Rt14) (hS : HS 2 400 ((I14 ar nr mr tr vr gr ao no mo to v)) Kst x) (hR : HR 2 400 ((V14 ar nr mr tr vr gr ao no mo to v)) (fun r => [newL (2 + 1) ((N14 ar nr mr tr vr gr ao no mo to v) r) ++ [(0, (false, .cols mr [.int .i64 tr, .int .i64 vr, .int .i64 gr])), (1, (false, .cols mo [.bool to]))]]) Kret x) (h : (bif (decide
 (ar + nr ≤ mr ∧
 nr ≤ 1000000 ∧ ao + no ≤ mo ∧ no ≤ 1000000 ∧ 1 ≤ 1 ∧ 1 ≤ 1000000))
 then (some (.inr (Prod.fst
 (Prod.snd
 (S.histS nr (fun (j : Nat) => tr (j + ar)) (fun (j : Nat) => vr (j + ar)) (fun (j : Nat) => gr (j + ar)) no
 (fun (j : Nat) => to (j + ao)) (1) fun (j : Nat) => S.lit [v] (0 : Int) j)), Prod.snd
 (Prod.snd
 (S.histS nr (fun (j : Nat) => tr (j + ar)) (fun (j : Nat) => vr (j + ar)) (fun (j : Nat) => gr (j + ar)) no
 (fun (j : Nat) => to (j + ao)) (1) fun (j : Nat) => S.lit [v] (0 : Int) j)))))
 else (none) : Option (St14 ⊕ Rt14)) = some x) : Te14 cond Kst Kret ar nr mr tr vr gr ao no mo to v := by
  unfold Te14
  exact bif_split h
   (fun c0 h => ret_at hR _ h (fun n => bif Nat.beq n 3 then 6 else bif Nat.beq n 4 then 7 else n) rfl rfl rfl (rn_tup ⟨(rn_agg ⟨(rn_own (use_own rfl) rfl rfl), (rn_own (use_own rfl) rfl rfl), trivial⟩), (rn_int rfl), trivial⟩) rfl (entl_new (use_own rfl) rfl (Nat.le_of_eq rfl) (rcs_int (fun _ _ => rfl) (rcs_int (fun _ _ => rfl) (rcs_int (fun _ _ => rfl) rcs_nil))) (entl_new (use_own rfl) rfl (Nat.le_of_eq rfl) (rcs_bool (fun _ _ => rfl) rcs_nil) (entl_bor (use_lo rfl) rfl rfl (entl_bor (use_lo rfl) rfl rfl entl_nil)))))
   (fun c0 h => no_some h)
theorem a14 (ar nr mr : Nat) (tr : Nat → Int) (vr : Nat → Int) (gr : Nat → Int) (ao no mo : Nat) (to : Nat → Bool) (v : Int) {r : Rt14} (h : Goes ((q14 ar nr mr tr vr gr ao no mo to v)) ((p14 ar nr mr tr vr gr ao no mo to v)) r) : CallR Try.prog 14 [.agg [.loose ⟨0, 3, ar, 0⟩ nr, .loose ⟨1, 1, ao, 0⟩ no], .int .i64 v] [[(0, (false, .cols mr [.int .i64 tr, .int .i64 vr, .int .i64 gr])), (1, (false, .cols mo [.bool to]))]] 2 ((V14 ar nr mr tr vr gr ao no mo to v) r) ((fun r => [newL (2 + 1) ((N14 ar nr mr tr vr gr ao no mo to v) r) ++ [(0, (false, .cols mr [.int .i64 tr, .int .i64 vr, .int .i64 gr])), (1, (false, .cols mo [.bool to]))]]) r) 400 ∧ ∃ F, Try.prog.funcs[14]? = some F ∧ F.body.isSome = true ∧ (F.name == "runtime.NumGoroutine") = false := by
  refine dec_calls (f := 14) (lo := 2) (hi := 400) (H := [[(0, (false, .cols mr [.int .i64 tr, .int .i64 vr, .int .i64 gr])), (1, (false, .cols mo [.bool to]))]]) (args := [.agg [.loose ⟨0, 3, ar, 0⟩ nr, .loose ⟨1, 1, ao, 0⟩ no], .int .i64 v]) Try.envOk Try.mixed yB5_ok ((I14 ar nr mr tr vr gr ao no mo to v)) ((V14 ar nr mr tr vr gr ao no mo to v)) (fun r => [newL (2 + 1) ((N14 ar nr mr tr vr gr ao no mo to v) r) ++ [(0, (false, .cols mr [.int .i64 tr, .int .i64 vr, .int .i64 gr])), (1, (false, .cols mo [.bool to]))]]) (fn := mkFn Try.f14) (ts := []) (n := 400) rfl (by decide) (by simp) (names_of rfl) ?_ ?_ ?_ h
  · intro s; exact s.elim
  · intro Kst Kret x hS hR h
    exact Holds.eq (te14 cond Kst Kret ar nr mr tr vr gr ao no mo to v) (be14 ar nr mr tr vr gr ao no mo to v Kst Kret x hS hR h)
  · intro Kst Kret x hS hR s h; exact s.elim
noncomputable def k14 : Con := ⟨14, [.agg [.list [.int .i64, .int .i64, .int .i64], .list [.bool]], .one (.plain (.int .i64))], fun (x : ((Nat × Nat × Nat × (Nat → Int) × (Nat → Int) × (Nat → Int) × Unit) × (Nat × Nat × Nat × (Nat → Bool) × Unit) × Unit) × Int × Unit) => (fun (ar nr mr : Nat) (tr : Nat → Int) (vr : Nat → Int) (gr : Nat → Int) (ao no mo : Nat) (to : Nat → Bool) (v : Int) => decide (ar + nr ≤ mr ∧ nr ≤ 1000000 ∧ ao + no ≤ mo ∧ no ≤ 1000000)) x.1.1.1 x.1.1.2.1 x.1.1.2.2.1 x.1.1.2.2.2.1 x.1.1.2.2.2.2.1 x.1.1.2.2.2.2.2.1 x.1.2.1.1 x.1.2.1.2.1 x.1.2.1.2.2.1 x.1.2.1.2.2.2.1 x.2.1, fun (x : ((Nat × Nat × Nat × (Nat → Int) × (Nat → Int) × (Nat → Int) × Unit) × (Nat × Nat × Nat × (Nat → Bool) × Unit) × Unit) × Int × Unit) => (fun (ar nr mr : Nat) (tr : Nat → Int) (vr : Nat → Int) (gr : Nat → Int) (ao no mo : Nat) (to : Nat → Bool) (v : Int) => (V14 ar nr mr tr vr gr ao no mo to v) (((S.histS nr (fun j => tr (j + ar)) (fun j => vr (j + ar)) (fun j => gr (j + ar)) no (fun j => to (j + ao)) 1 (fun j => S.lit [v] 0 j)).2.1, (S.histS nr (fun j => tr (j + ar)) (fun j => vr (j + ar)) (fun j => gr (j + ar)) no (fun j => to (j + ao)) 1 (fun j => S.lit [v] 0 j)).2.2))) x.1.1.1 x.1.1.2.1 x.1.1.2.2.1 x.1.1.2.2.2.1 x.1.1.2.2.2.2.1 x.1.1.2.2.2.2.2.1 x.1.2.1.1 x.1.2.1.2.1 x.1.2.1.2.2.1 x.1.2.1.2.2.2.1 x.2.1, fun (x : ((Nat × Nat × Nat × (Nat → Int) × (Nat → Int) × (Nat → Int) × Unit) × (Nat × Nat × Nat × (Nat → Bool) × Unit) × Unit) × Int × Unit) => (fun (ar nr mr : Nat) (tr : Nat → Int) (vr : Nat → Int) (gr : Nat → Int) (ao no mo : Nat) (to : Nat → Bool) (v : Int) => (N14 ar nr mr tr vr gr ao no mo to v) (((S.histS nr (fun j => tr (j + ar)) (fun j => vr (j + ar)) (fun j => gr (j + ar)) no (fun j => to (j + ao)) 1 (fun j => S.lit [v] 0 j)).2.1, (S.histS nr (fun j => tr (j + ar)) (fun j => vr (j + ar)) (fun j => gr (j + ar)) no (fun j => to (j + ao)) 1 (fun j => S.lit [v] 0 j)).2.2))) x.1.1.1 x.1.1.2.1 x.1.1.2.2.1 x.1.1.2.2.2.1 x.1.1.2.2.2.2.1 x.1.1.2.2.2.2.2.1 x.1.2.1.1 x.1.2.1.2.1 x.1.2.1.2.2.1 x.1.2.1.2.2.2.1 x.2.1, fun _ _ => .dead⟩
theorem s14 (ar nr mr : Nat) (tr : Nat → Int) (vr : Nat → Int) (gr : Nat → Int) (ao no mo : Nat) (to : Nat → Bool) (v : Int) (hp : ar + nr ≤ mr ∧ nr ≤ 1000000 ∧ ao + no ≤ mo ∧ no ≤ 1000000) : Goes ((q14 ar nr mr tr vr gr ao no mo to v)) ((p14 ar nr mr tr vr gr ao no mo to v)) (((S.histS nr (fun j => tr (j + ar)) (fun j => vr (j + ar)) (fun j => gr (j + ar)) no (fun j => to (j + ao)) 1 (fun j => S.lit [v] 0 j)).2.1, (S.histS nr (fun j => tr (j + ar)) (fun j => vr (j + ar)) (fun j => gr (j + ar)) no (fun j => to (j + ao)) 1 (fun j => S.lit [v] 0 j)).2.2)) := by
  obtain ⟨hp1, hp2, hp3, hp4⟩ := hp
  show Goes _ _ _
  unfold p14
  repeat' first
    | with_reducible refine goes_if (fun h => ?_) (fun h => ?_) <;> (try simp only [lim64, decide_eq_true_eq, decide_eq_false_iff_not, Int.toNat_natCast, toNat_pred, toNat_succ, Option.getD_some, Option.getD_none, Bool.not_eq_true', Bool.not_eq_false', Bool.and_eq_true, Bool.or_eq_true, Bool.and_eq_false_iff, Bool.or_eq_false_iff, bne_iff_ne, beq_iff_eq, bne_eq_false_iff_eq, beq_eq_false_iff_ne, ne_eq, not_and, Int.not_le, Int.not_lt, ge_iff_le, gt_iff_lt, Nat.not_lt, Nat.not_le, Bool.not_eq_true, Bool.not_eq_false, Bool.true_eq_false, Bool.false_eq_true, not_false_eq_true, not_true_eq_false] at h)
    | exact goes_none.mpr (by omega)
  all_goals first | (exfalso; omega) | rfl

theorem k14_ok : k14.ok Try.prog := by
  intro x hx
  obtain ⟨⟨⟨ar, nr, mr, tr, vr, gr, _⟩, ⟨ao, no, mo, to, _⟩, _⟩, v, _⟩ := x
  obtain ⟨h1, h2⟩ := a14 ar nr mr tr vr gr ao no mo to v (s14 ar nr mr tr vr gr ao no mo to v (of_decide_eq_true hx))
  exact ⟨⟨400, (by decide : 2 + 1 + 2 ≤ 400), h1⟩, h2⟩
inductive St16 where
  | h0 (x0 : Int) (x1 : List (Int × Int × Int)) (x2 : List Bool)
abbrev Rt16 := Int × List (Int × Int × Int) × List Bool
noncomputable def V16 (ar nr mr : Nat) (tr : Nat → Int) (vr : Nat → Int) (gr : Nat → Int) (ao no mo : Nat) (to : Nat → Bool) (v : Int) (r : Rt16) : PV := PV.tup
 [PV.agg
 [PV.own (3) (3) (List.length r.2.1), PV.own (4) (1) (List.length r.2.2)],
 PV.int IntKind.i64 r.1]
noncomputable def N16 (ar nr mr : Nat) (tr : Nat → Int) (vr : Nat → Int) (gr : Nat → Int) (ao no mo : Nat) (to : Nat → Bool) (v : Int) (r : Rt16) : List Blk := [Blk.cols (List.length r.2.1)
 [Col.int IntKind.i64 fun (j : Nat) => (S.at' r.2.1 j).1,
 Col.int IntKind.i64 fun (j : Nat) => (S.at' r.2.1 j).2.1,
 Col.int IntKind.i64 fun (j : Nat) => (S.at' r.2.1 j).2.2], Blk.cols (List.length r.2.2) [Col.bool fun (j : Nat) => S.at' r.2.2 j]]
noncomputable def I16 (ar nr mr : Nat) (tr : Nat → Int) (vr : Nat → Int) (gr : Nat → Int) (ao no mo : Nat) (to : Nat → Bool) (v : Int) : St16 → Hd
  | .h0 x0 x1 x2 => ⟨hd Try.f16 0, [PV.int IntKind.i64 v, PV.ptr (PA.mk (2) (0) (0) (0)),
 PV.ptr (PA.mk (3) (0) (0) (0)),
 PV.ptr (PA.mk (4) (0) (0) (0)), PV.int IntKind.i64 x0], [[(2, (true, Blk.cells
 [PV.loose (PA.mk (0) (3) ar (0)) nr,
 PV.loose (PA.mk (1) (1) ao (0)) no])), (3, (true, Blk.cells [PV.nils, PV.nils])), (4, (true, Blk.cells
 [PV.own (5) (3) (List.length x1), PV.own (6) (1) (List.length x2)])), (5, (true, Blk.cols (List.length x1)
 [Col.int IntKind.i64 fun (j : Nat) => (S.at' x1 j).1,
 Col.int IntKind.i64 fun (j : Nat) => (S.at' x1 j).2.1,
 Col.int IntKind.i64 fun (j : Nat) => (S.at' x1 j).2.2])), (6, (true, Blk.cols (List.length x2) [Col.bool fun (j : Nat) => S.at' x2 j]))], [(0, (false, .cols mr [.int .i64 tr, .int .i64 vr, .int .i64 gr])), (1, (false, .cols mo [.bool to]))]], 7⟩
noncomputable def q16 (ar nr mr : Nat) (tr : Nat → Int) (vr : Nat → Int) (gr : Nat → Int) (ao no mo : Nat) (to : Nat → Bool) (v : Int) : St16 → Option (St16 ⊕ Rt16)
  | .h0 x0 x1 x2 => bif (decide (x0 < (↑nr : Int)))
 then (bif (decide ((0 : Int) ≤ x0 ∧ x0 < (↑nr : Int)))
 then (bif (decide (Int.toNat x0 + ar < mr))
 then (bif (decide (List.length x1 + 1 ≤ 1000000))
 then (bif (decide (List.length x1 ≤ List.length x1))
 then (bif (decide ((0 : Int) ≤ x0 ∧ x0 < (↑no : Int)))
 then (bif (decide (Int.toNat x0 + ao < mo))
 then (bif (to (Int.toNat x0 + ao))
 then (bif (decide (v ≥ tr (Int.toNat x0 + ar)))
 then (bif (decide (List.length x2 + 1 ≤ 1000000))
 then (bif (decide (List.length x2 ≤ List.length x2))
 then (bif (lim IntKind.i64 (x0 + (1 : Int)))
 then (some (.inl (.h0 (x0 + (1 : Int)) (S.snoc x1 (tr (Int.toNat x0 + ar), vr (Int.toNat x0 + ar), gr (Int.toNat x0 + ar))) (S.snoc x2 true))))
 else (none))
 else (none))
 else (none))
 else (bif (decide (v ≤ vr (Int.toNat x0 + ar)))
 then (bif (decide (List.length x2 + 1 ≤ 1000000))
 then (bif (decide (List.length x2 ≤ List.length x2))
 then (bif (lim IntKind.i64 (x0 + (1 : Int)))
 then (some (.inl (.h0 (x0 + (1 : Int)) (S.snoc x1 (tr (Int.toNat x0 + ar), vr (Int.toNat x0 + ar), gr (Int.toNat x0 + ar))) (S.snoc x2 false))))
 else (none))
 else (none))
 else (none))
 else (bif (decide (List.length x2 + 1 ≤ 1000000))
 then (bif (decide (List.length x2 ≤ List.length x2))
 then (bif (lim IntKind.i64 (x0 + (1 : Int)))
 then (some (.inl (.h0 (x0 + (1 : Int)) (S.snoc x1 (tr (Int.toNat x0 + ar), vr (Int.toNat x0 + ar), gr (Int.toNat x0 + ar))) (S.snoc x2 true))))
 else (none))
 else (none))
 else (none))))
 else (bif (decide (v ≥ tr (Int.toNat x0 + ar)))
 then (bif (decide (List.length x2 + 1 ≤ 1000000))
 then (bif (decide (List.length x2 ≤ List.length x2))
 then (bif (lim IntKind.i64 (x0 + (1 : Int)))
 then (some (.inl (.h0 (x0 + (1 : Int)) (S.snoc x1 (tr (Int.toNat x0 + ar), vr (Int.toNat x0 + ar), gr (Int.toNat x0 + ar))) (S.snoc x2 true))))
 else (none))
 else (none))
 else (none))
 else (bif (decide (v ≤ vr (Int.toNat x0 + ar)))
 then (bif (decide (List.length x2 + 1 ≤ 1000000))
 then (bif (decide (List.length x2 ≤ List.length x2))
 then (bif (lim IntKind.i64 (x0 + (1 : Int)))
 then (some (.inl (.h0 (x0 + (1 : Int)) (S.snoc x1 (tr (Int.toNat x0 + ar), vr (Int.toNat x0 + ar), gr (Int.toNat x0 + ar))) (S.snoc x2 false))))
 else (none))
 else (none))
 else (none))
 else (bif (decide (List.length x2 + 1 ≤ 1000000))
 then (bif (decide (List.length x2 ≤ List.length x2))
 then (bif (lim IntKind.i64 (x0 + (1 : Int)))
 then (some (.inl (.h0 (x0 + (1 : Int)) (S.snoc x1 (tr (Int.toNat x0 + ar), vr (Int.toNat x0 + ar), gr (Int.toNat x0 + ar))) (S.snoc x2 false))))
 else (none))
 else (none))
 else (none)))))
 else (none))
 else (none))
 else (none))
 else (none))
 else (none))
 else (none))
 else (some (.inr ((0 : Int), x1, x2)))
noncomputable def p16 (ar nr mr : Nat) (tr : Nat → Int) (vr : Nat → Int) (gr : Nat → Int) (ao no mo : Nat) (to : Nat → Bool) (v : Int) : Option (St16 ⊕ Rt16) := bif (decide (ar + nr ≤ mr ∧ nr ≤ 1000000))
 then (bif (S.magE nr (fun (j : Nat) => tr (j + ar)) (fun (j : Nat) => vr (j + ar)) (fun (j : Nat) => gr (j + ar)) no !=
 (0 : Int))
 then (some (.inr (S.magE nr (fun (j : Nat) => tr (j + ar)) (fun (j : Nat) => vr (j + ar)) (fun (j : Nat) => gr (j + ar)) no, [], [])))
 else (bif (decide (v < (-1099511627776 : Int)))
 then (some (.inr ((6 : Int), [], [])))
 else (bif (decide (v > (1099511627776 : Int)))
 then (some (.inr ((6 : Int), [], [])))
 else (some (.inl (.h0 ((0 : Int)) ([]) ([])))))))
 else (none)
noncomputable def Te16 (test : Bool → Prop → Prop → Prop) (Kst : KS) (Kret : KR) (ar nr mr : Nat) (tr : Nat → Int) (vr : Nat → Int) (gr : Nat → Int) (ao no mo : Nat) (to : Nat → Bool) (v : Int) : Prop :=
  test (decide (ar + nr ≤ mr ∧ nr ≤ 1000000))
 (test (S.magE nr (fun (j : Nat) => tr (j + ar)) (fun (j : Nat) => vr (j + ar)) (fun (j : Nat) => gr (j + ar)) no !=
 (0 : Int))
 (Kret (PV.tup
 [PV.agg [PV.nils, PV.nils],
 PV.int IntKind.i64
 (S.magE nr (fun (j : Nat) => tr (j + ar)) (fun (j : Nat) => vr (j + ar)) (fun (j : Nat) => gr (j + ar)) no)]) ([[(1, false, Blk.cols mo [Col.bool to]),
 (0, false,
 Blk.cols mr
 [Col.int IntKind.i64 tr, Col.int IntKind.i64 vr, Col.int IntKind.i64 gr])]]) (5))
 (test (decide (v < (-1099511627776 : Int)))
 (Kret (PV.tup [PV.agg [PV.nils, PV.nils], PV.int IntKind.i64 (6 : Int)]) ([[(1, false, Blk.cols mo [Col.bool to]),
 (0, false,
 Blk.cols mr
 [Col.int IntKind.i64 tr, Col.int IntKind.i64 vr, Col.int IntKind.i64 gr])]]) (5))
 (test (decide (v > (1099511627776 : Int)))
 (Kret (PV.tup [PV.agg [PV.nils, PV.nils], PV.int IntKind.i64 (6 : Int)]) ([[(1, false, Blk.cols mo [Col.bool to]),
 (0, false,
 Blk.cols mr
 [Col.int IntKind.i64 tr, Col.int IntKind.i64 vr, Col.int IntKind.i64 gr])]]) (5))
 (Kst (hd Try.f16 0) ([PV.int IntKind.i64 v, PV.ptr (PA.mk (2) (0) (0) (0)),
 PV.ptr (PA.mk (3) (0) (0) (0)),
 PV.ptr (PA.mk (5) (0) (0) (0)), PV.int IntKind.i64 (0 : Int)]) ([[(1, false, Blk.cols mo [Col.bool to]),
 (0, false,
 Blk.cols mr
 [Col.int IntKind.i64 tr, Col.int IntKind.i64 vr, Col.int IntKind.i64 gr]),
 (5, true, Blk.cells [PV.nils, PV.nils]),
 (3, true, Blk.cells [PV.nils, PV.nils]),
 (2, true,
 Blk.cells
 [PV.loose (PA.mk (0) (3) ar (0)) nr,
 PV.loose (PA.mk (1) (1) ao (0)) no])]]) (6)))))
 (False)
set_option maxRecDepth 100000 in
theorem te16 (test : Bool → Prop → Prop → Prop) (Kst : KS) (Kret : KR) (ar nr mr : Nat) (tr : Nat → Int) (vr : Nat → Int) (gr : Nat → Int) (ao no mo : Nat) (to : Nat → Bool) (v : Int) : run test Try.env true (yB5 test) true 400 ⟨16, [.cd (mkFn Try.f16).body], argT 0 [.agg [.loose ⟨0, 3, ar, 0⟩ nr, .loose ⟨1, 1, ao, 0⟩ no], .int .i64 v], [[], [(0, (false, .cols mr [.int .i64 tr, .int .i64 vr, .int .i64 gr])), (1, (false, .cols mo [.bool to]))]], 2⟩ (proj 2 [1, 2, 4, 7, 8] Kst Kret) =
  Te16 test Kst Kret ar nr mr tr vr gr ao no mo to v := by kernel_rfl
noncomputable def T16_0 (test : Bool → Prop → Prop → Prop) (Kst : KS) (Kret : KR) (ar nr mr : Nat) (tr : Nat → Int) (vr : Nat → Int) (gr : Nat → Int) (ao no mo : Nat) (to : Nat → Bool) (v : Int) (x0 : Int) (x1 : List (Int × Int × Int)) (x2 : List Bool) : Prop :=
  test (decide (x0 < (↑nr : Int)))
 (test (decide ((0 : Int) ≤ x0 ∧ x0 < (↑nr : Int)))
 (test (decide (Int.toNat x0 + ar < mr))
 (test (decide (Int.toNat x0 + ar < mr))
 (test (decide (Int.toNat x0 + ar < mr))
 (test (decide (List.length x1 + 1 ≤ 1000000))
 (test (decide (List.length x1 ≤ List.length x1))
 (test (true)
 (test (decide ((0 : Int) ≤ x0 ∧ x0 < (↑nr : Int)))
 (test (decide (Int.toNat x0 + ar < mr))
 (test (decide (Int.toNat x0 + ar < mr))
 (test (decide (Int.toNat x0 + ar < mr))
 (test (decide ((0 : Int) ≤ x0 ∧ x0 < (↑no : Int)))
 (test (decide (Int.toNat x0 + ao < mo))
 (test (to (Int.toNat x0 + ao))
 (test (decide (v ≥ tr (Int.toNat x0 + ar)))
 (test (decide (List.length x2 + 1 ≤ 1000000))
 (test (decide (List.length x2 ≤ List.length x2))
 (test (true)
 (test (lim IntKind.i64 (x0 + (1 : Int)))
 (Kst (hd Try.f16 0) ([PV.int IntKind.i64 v, PV.ptr (PA.mk (2) (0) (0) (0)),
 PV.ptr (PA.mk (3) (0) (0) (0)),
 PV.ptr (PA.mk (4) (0) (0) (0)),
 PV.int IntKind.i64 (x0 + (1 : Int))]) ([[(1, false, Blk.cols mo [Col.bool to]),
 (0, false,
 Blk.cols mr
 [Col.int IntKind.i64 tr, Col.int IntKind.i64 vr, Col.int IntKind.i64 gr]),
 (4, true,
 Blk.cells
 [PV.own (8) (3) (List.length x1 + 1),
 PV.own (11) (1) (List.length x2 + 1)]),
 (3, true, Blk.cells [PV.nils, PV.nils]),
 (2, true,
 Blk.cells
 [PV.loose (PA.mk (0) (3) ar (0)) nr,
 PV.loose (PA.mk (1) (1) ao (0)) no]),
 (11, true,
 Blk.cols (List.length x2 + 1)
 [Col.bool fun (j : Nat) => bif Nat.blt j (List.length x2) then S.at' x2 j else true]),
 (8, true,
 Blk.cols (List.length x1 + 1)
 [Col.int IntKind.i64 fun (j : Nat) =>
 bif Nat.blt j (List.length x1) then (S.at' x1 j).1 else tr (Int.toNat x0 + ar),
 Col.int IntKind.i64 fun (j : Nat) =>
 bif Nat.blt j (List.length x1) then (S.at' x1 j).2.1 else vr (Int.toNat x0 + ar),
 Col.int IntKind.i64 fun (j : Nat) =>
 bif Nat.blt j (List.length x1) then (S.at' x1 j).2.2 else gr (Int.toNat x0 + ar)])]]) (12))
 (False))
 (False))
 (False))
 (False))
 (test (decide (v ≤ vr (Int.toNat x0 + ar)))
 (test (decide (List.length x2 + 1 ≤ 1000000))
 (test (decide (List.length x2 ≤ List.length x2))
 (test (true)
 (test (lim IntKind.i64 (x0 + (1 : Int)))
 (Kst (hd Try.f16 0) ([PV.int IntKind.i64 v, PV.ptr (PA.mk (2) (0) (0) (0)),
 PV.ptr (PA.mk (3) (0) (0) (0)),
 PV.ptr (PA.mk (4) (0) (0) (0)),
 PV.int IntKind.i64 (x0 + (1 : Int))]) ([[(1, false, Blk.cols mo [Col.bool to]),
 (0, false,
 Blk.cols mr
 [Col.int IntKind.i64 tr, Col.int IntKind.i64 vr, Col.int IntKind.i64 gr]),
 (4, true,
 Blk.cells
 [PV.own (8) (3) (List.length x1 + 1),
 PV.own (11) (1) (List.length x2 + 1)]),
 (3, true, Blk.cells [PV.nils, PV.nils]),
 (2, true,
 Blk.cells
 [PV.loose (PA.mk (0) (3) ar (0)) nr,
 PV.loose (PA.mk (1) (1) ao (0)) no]),
 (11, true,
 Blk.cols (List.length x2 + 1)
 [Col.bool fun (j : Nat) => bif Nat.blt j (List.length x2) then S.at' x2 j else false]),
 (8, true,
 Blk.cols (List.length x1 + 1)
 [Col.int IntKind.i64 fun (j : Nat) =>
 bif Nat.blt j (List.length x1) then (S.at' x1 j).1 else tr (Int.toNat x0 + ar),
 Col.int IntKind.i64 fun (j : Nat) =>
 bif Nat.blt j (List.length x1) then (S.at' x1 j).2.1 else vr (Int.toNat x0 + ar),
 Col.int IntKind.i64 fun (j : Nat) =>
 bif Nat.blt j (List.length x1) then (S.at' x1 j).2.2 else gr (Int.toNat x0 + ar)])]]) (12))
 (False))
 (False))
 (False))
 (False))
 (test (decide (List.length x2 + 1 ≤ 1000000))
 (test (decide (List.length x2 ≤ List.length x2))
 (test (true)
 (test (lim IntKind.i64 (x0 + (1 : Int)))
 (Kst (hd Try.f16 0) ([PV.int IntKind.i64 v, PV.ptr (PA.mk (2) (0) (0) (0)),
 PV.ptr (PA.mk (3) (0) (0) (0)),
 PV.ptr (PA.mk (4) (0) (0) (0)),
 PV.int IntKind.i64 (x0 + (1 : Int))]) ([[(1, false, Blk.cols mo [Col.bool to]),
 (0, false,
 Blk.cols mr
 [Col.int IntKind.i64 tr, Col.int IntKind.i64 vr, Col.int IntKind.i64 gr]),
 (4, true,
 Blk.cells
 [PV.own (8) (3) (List.length x1 + 1),
 PV.own (11) (1) (List.length x2 + 1)]),
 (3, true, Blk.cells [PV.nils, PV.nils]),
 (2, true,
 Blk.cells
 [PV.loose (PA.mk (0) (3) ar (0)) nr,
 PV.loose (PA.mk (1) (1) ao (0)) no]),
 (11, true,
 Blk.cols (List.length x2 + 1)
 [Col.bool fun (j : Nat) => bif Nat.blt j (List.length x2) then S.at' x2 j else true]),
 (8, true,
 Blk.cols (List.length x1 + 1)
 [Col.int IntKind.i64 fun (j : Nat) =>
 bif Nat.blt j (List.length x1) then (S.at' x1 j).1 else tr (Int.toNat x0 + ar),
 Col.int IntKind.i64 fun (j : Nat) =>
 bif Nat.blt j (List.length x1) then (S.at' x1 j).2.1 else vr (Int.toNat x0 + ar),
 Col.int IntKind.i64 fun (j : Nat) =>
 bif Nat.blt j (List.length x1) then (S.at' x1 j).2.2 else gr (Int.toNat x0 + ar)])]]) (12))
 (False))
 (False))
 (False))
 (False))))
 (test (decide (v ≥ tr (Int.toNat x0 + ar)))
 (test (decide (List.length x2 + 1 ≤ 1000000))
 (test (decide (List.length x2 ≤ List.length x2))
 (test (true)
 (test (lim IntKind.i64 (x0 + (1 : Int)))
 (Kst (hd Try.f16 0) ([PV.int IntKind.i64 v, PV.ptr (PA.mk (2) (0) (0) (0)),
 PV.ptr (PA.mk (3) (0) (0) (0)),
 PV.ptr (PA.mk (4) (0) (0) (0)),
 PV.int IntKind.i64 (x0 + (1 : Int))]) ([[(1, false, Blk.cols mo [Col.bool to]),
 (0, false,
 Blk.cols mr
 [Col.int IntKind.i64 tr, Col.int IntKind.i64 vr, Col.int IntKind.i64 gr]),
 (4, true,
 Blk.cells
 [PV.own (8) (3) (List.length x1 + 1),
 PV.own (11) (1) (List.length x2 + 1)]),
 (3, true, Blk.cells [PV.nils, PV.nils]),
 (2, true,
 Blk.cells
 [PV.loose (PA.mk (0) (3) ar (0)) nr,
 PV.loose (PA.mk (1) (1) ao (0)) no]),
 (11, true,
 Blk.cols (List.length x2 + 1)
 [Col.bool fun (j : Nat) => bif Nat.blt j (List.length x2) then S.at' x2 j else true]),
 (8, true,
 Blk.cols (List.length x1 + 1)
 [Col.int IntKind.i64 fun (j : Nat) =>
 bif Nat.blt j (List.length x1) then (S.at' x1 j).1 else tr (Int.toNat x0 + ar),
 Col.int IntKind.i64 fun (j : Nat) =>
 bif Nat.blt j (List.length x1) then (S.at' x1 j).2.1 else vr (Int.toNat x0 + ar),
 Col.int IntKind.i64 fun (j : Nat) =>
 bif Nat.blt j (List.length x1) then (S.at' x1 j).2.2 else gr (Int.toNat x0 + ar)])]]) (12))
 (False))
 (False))
 (False))
 (False))
 (test (decide (v ≤ vr (Int.toNat x0 + ar)))
 (test (decide (List.length x2 + 1 ≤ 1000000))
 (test (decide (List.length x2 ≤ List.length x2))
 (test (true)
 (test (lim IntKind.i64 (x0 + (1 : Int)))
 (Kst (hd Try.f16 0) ([PV.int IntKind.i64 v, PV.ptr (PA.mk (2) (0) (0) (0)),
 PV.ptr (PA.mk (3) (0) (0) (0)),
 PV.ptr (PA.mk (4) (0) (0) (0)),
 PV.int IntKind.i64 (x0 + (1 : Int))]) ([[(1, false, Blk.cols mo [Col.bool to]),
 (0, false,
 Blk.cols mr
 [Col.int IntKind.i64 tr, Col.int IntKind.i64 vr, Col.int IntKind.i64 gr]),
 (4, true,
 Blk.cells
 [PV.own (8) (3) (List.length x1 + 1),
 PV.own (11) (1) (List.length x2 + 1)]),
 (3, true, Blk.cells [PV.nils, PV.nils]),
 (2, true,
 Blk.cells
 [PV.loose (PA.mk (0) (3) ar (0)) nr,
 PV.loose (PA.mk (1) (1) ao (0)) no]),
 (11, true,
 Blk.cols (List.length x2 + 1)
 [Col.bool fun (j : Nat) => bif Nat.blt j (List.length x2) then S.at' x2 j else false]),
 (8, true,
 Blk.cols (List.length x1 + 1)
 [Col.int IntKind.i64 fun (j : Nat) =>
 bif Nat.blt j (List.length x1) then (S.at' x1 j).1 else tr (Int.toNat x0 + ar),
 Col.int IntKind.i64 fun (j : Nat) =>
 bif Nat.blt j (List.length x1) then (S.at' x1 j).2.1 else vr (Int.toNat x0 + ar),
 Col.int IntKind.i64 fun (j : Nat) =>
 bif Nat.blt j (List.length x1) then (S.at' x1 j).2.2 else gr (Int.toNat x0 + ar)])]]) (12))
 (False))
 (False))
 (False))
 (False))
 (test (decide (List.length x2 + 1 ≤ 1000000))
 (test (decide (List.length x2 ≤ List.length x2))
 (test (true)
 (test (lim IntKind.i64 (x0 + (1 : Int)))
 (Kst (hd Try.f16 0) ([PV.int IntKind.i64 v, PV.ptr (PA.mk (2) (0) (0) (0)),
 PV.ptr (PA.mk (3) (0) (0) (0)),
 PV.ptr (PA.mk (4) (0) (0) (0)),
 PV.int IntKind.i64 (x0 + (1 : Int))]) ([[(1, false, Blk.cols mo [Col.bool to]),
 (0, false,
 Blk.cols mr
 [Col.int IntKind.i64 tr, Col.int IntKind.i64 vr, Col.int IntKind.i64 gr]),
 (4, true,
 Blk.cells
 [PV.own (8) (3) (List.length x1 + 1),
 PV.own (11) (1) (List.length x2 + 1)]),
 (3, true, Blk.cells [PV.nils, PV.nils]),
 (2, true,
 Blk.cells
 [PV.loose (PA.mk (0) (3) ar (0)) nr,
 PV.loose (PA.mk (1) (1) ao (0)) no]),
 (11, true,
 Blk.cols (List.length x2 + 1)
 [Col.bool fun (j : Nat) => bif Nat.blt j (List.length x2) then S.at' x2 j else false]),
 (8, true,
 Blk.cols (List.length x1 + 1)
 [Col.int IntKind.i64 fun (j : Nat) =>
 bif Nat.blt j (List.length x1) then (S.at' x1 j).1 else tr (Int.toNat x0 + ar),
 Col.int IntKind.i64 fun (j : Nat) =>
 bif Nat.blt j (List.length x1) then (S.at' x1 j).2.1 else vr (Int.toNat x0 + ar),
 Col.int IntKind.i64 fun (j : Nat) =>
 bif Nat.blt j (List.length x1) then (S.at' x1 j).2.2 else gr (Int.toNat x0 + ar)])]]) (12))
 (False))
 (False))
 (False))
 (False)))))
 (False))
 (False))
 (False))
 (False))
 (False))
 (False))
 (False))
 (False))
 (False))
 (False))
 (False))
 (False))
 (False))
 (Kret (PV.tup
 [PV.agg
 [PV.own (5) (3) (List.length x1), PV.own (6) (1) (List.length x2)],
 PV.int IntKind.i64 (0 : Int)]) ([[(1, false, Blk.cols mo [Col.bool to]),
 (0, false,
 Blk.cols mr
 [Col.int IntKind.i64 tr, Col.int IntKind.i64 vr, Col.int IntKind.i64 gr]),
 (6, true, Blk.cols (List.length x2) [Col.bool fun (j : Nat) => S.at' x2 j]),
 (5, true,
 Blk.cols (List.length x1)
 [Col.int IntKind.i64 fun (j : Nat) => (S.at' x1 j).1,
 Col.int IntKind.i64 fun (j : Nat) => (S.at' x1 j).2.1,
 Col.int IntKind.i64 fun (j : Nat) => (S.at' x1 j).2.2])]]) (7))
set_option maxRecDepth 100000 in
theorem t16_0 (test : Bool → Prop → Prop → Prop) (Kst : KS) (Kret : KR) (ar nr mr : Nat) (tr : Nat → Int) (vr : Nat → Int) (gr : Nat → Int) (ao no mo : Nat) (to : Nat → Bool) (v : Int) (x0 : Int) (x1 : List (Int × Int × Int)) (x2 : List Bool) : run test Try.env true (yB5 test) true 400 ⟨16, hd Try.f16 0, zipT [1, 2, 4, 7, 8] [PV.int IntKind.i64 v, PV.ptr (PA.mk (2) (0) (0) (0)),
 PV.ptr (PA.mk (3) (0) (0) (0)),
 PV.ptr (PA.mk (4) (0) (0) (0)), PV.int IntKind.i64 x0], [[(2, (true, Blk.cells
 [PV.loose (PA.mk (0) (3) ar (0)) nr,
 PV.loose (PA.mk (1) (1) ao (0)) no])), (3, (true, Blk.cells [PV.nils, PV.nils])), (4, (true, Blk.cells
 [PV.own (5) (3) (List.length x1), PV.own (6) (1) (List.length x2)])), (5, (true, Blk.cols (List.length x1)
 [Col.int IntKind.i64 fun (j : Nat) => (S.at' x1 j).1,
 Col.int IntKind.i64 fun (j : Nat) => (S.at' x1 j).2.1,
 Col.int IntKind.i64 fun (j : Nat) => (S.at' x1 j).2.2])), (6, (true, Blk.cols (List.length x2) [Col.bool fun (j : Nat) => S.at' x2 j]))], [(0, (false, .cols mr [.int .i64 tr, .int .i64 vr, .int .i64 gr])), (1, (false, .cols mo [.bool to]))]], 7⟩ (proj 2 [1, 2, 4, 7, 8] Kst Kret) =
  T16_0 test Kst Kret ar nr mr tr vr gr ao no mo to v x0 x1 x2 := by kernel_rfl
set_option maxRecDepth 100000 in
theorem be16 (ar nr mr : Nat) (tr : Nat → Int) (vr : Nat → Int) (gr : Nat → Int) (ao no mo : Nat) (to : Nat → Bool) (v : Int) (Kst : KS) (Kret : KR) (x : St16 ⊕ Rt16) (hS : HS 2 400 ((I16 ar nr mr tr vr gr ao no mo to v)) Kst x) (hR : HR 2 400 ((V16 ar nr mr tr vr gr ao no mo to v)) (fun r => [newL (2 + 1) ((N16 ar nr mr tr vr gr ao no mo to v) r) ++ [(0, (false, .cols mr [.int .i64 tr, .int .i64 vr, .int .i64 gr])), (1, (false, .cols mo [.bool to]))]]) Kret x) (h : (bif (decide (ar + nr ≤ mr ∧ nr ≤ 1000000))
 then (bif (S.magE nr (fun (j : Nat) => tr (j + ar)) (fun (j : Nat) => vr (j + ar)) (fun (j : Nat) => gr (j + ar)) no !=
 (0 : Int))
 then (some (.inr (S.magE nr (fun (j : Nat) => tr (j + ar)) (fun (j : Nat) => vr (j + ar)) (fun (j : Nat) => gr (j + ar)) no, [], [])))
 else (bif (decide (v < (-1099511627776 : Int)))
 then (some (.inr ((6 : Int), [], [])))
 else (bif (decide (v > (1099511627776 : Int)))
 then (some (.inr ((6 : Int), [], [])))
 else (some (.inl (.h0 ((0 : Int)) ([]) ([])))))))
 else (none) : Option (St16 ⊕ Rt16)) = some x) : Te16 cond Kst Kret ar nr mr tr vr gr ao no mo to v := by
  unfold Te16
  exact bif_split h
   (fun c0 h => bif_split h
   (fun c1 h => ret_at hR _ h (fun n => bif Nat.beq n 3 then 399 else bif Nat.beq n 4 then 398 else n) rfl rfl rfl (rn_tup ⟨(rn_agg ⟨(rn_own_nils rfl), (rn_own_nils rfl), trivial⟩), (rn_int rfl), trivial⟩) rfl (entl_fresh (use_own rfl) (fresh_ok rfl) (entl_fresh (use_own rfl) (fresh_ok rfl) (entl_bor (use_lo rfl) rfl rfl (entl_bor (use_lo rfl) rfl rfl entl_nil)))))
   (fun c1 h => bif_split h
   (fun c2 h => ret_at hR _ h (fun n => bif Nat.beq n 3 then 399 else bif Nat.beq n 4 then 398 else n) rfl rfl rfl (rn_tup ⟨(rn_agg ⟨(rn_own_nils rfl), (rn_own_nils rfl), trivial⟩), (rn_int rfl), trivial⟩) rfl (entl_fresh (use_own rfl) (fresh_ok rfl) (entl_fresh (use_own rfl) (fresh_ok rfl) (entl_bor (use_lo rfl) rfl rfl (entl_bor (use_lo rfl) rfl rfl entl_nil)))))
   (fun c2 h => bif_split h
   (fun c3 h => ret_at hR _ h (fun n => bif Nat.beq n 3 then 399 else bif Nat.beq n 4 then 398 else n) rfl rfl rfl (rn_tup ⟨(rn_agg ⟨(rn_own_nils rfl), (rn_own_nils rfl), trivial⟩), (rn_int rfl), trivial⟩) rfl (entl_fresh (use_own rfl) (fresh_ok rfl) (entl_fresh (use_own rfl) (fresh_ok rfl) (entl_bor (use_lo rfl) rfl rfl (entl_bor (use_lo rfl) rfl rfl entl_nil)))))
   (fun c3 h => stop_at hS _ h (fun n => bif Nat.beq n 2 then 2 else bif Nat.beq n 3 then 3 else bif Nat.beq n 4 then 5 else bif Nat.beq n 5 then 399 else bif Nat.beq n 6 then 398 else n) rfl rfl rfl ⟨(rn_int rfl), ⟨(rn_ptr (use_own rfl) rfl rfl), ⟨(rn_ptr (use_own rfl) rfl rfl), ⟨(rn_ptr (use_own rfl) rfl rfl), ⟨(rn_int rfl), trivial⟩⟩⟩⟩⟩ rfl (entl_b (use_own rfl) rfl (by simp) (rb_cells ⟨(rn_loose (use_lo rfl) rfl rfl rfl), (rn_loose (use_lo rfl) rfl rfl rfl), trivial⟩) (entl_b (use_own rfl) rfl (by simp) (rb_cells ⟨rn_nils, rn_nils, trivial⟩) (entl_b (use_own rfl) rfl (by simp) (rb_cells ⟨(rn_own_nils rfl), (rn_own_nils rfl), trivial⟩) (entl_fresh (use_own rfl) (fresh_ok rfl) (entl_fresh (use_own rfl) (fresh_ok rfl) (entl_bor (use_lo rfl) rfl rfl (entl_bor (use_lo rfl) rfl rfl entl_nil)))))))))))
   (fun c0 h => no_some h)
set_option maxRecDepth 100000 in
theorem b16_0 (ar nr mr : Nat) (tr : Nat → Int) (vr : Nat → Int) (gr : Nat → Int) (ao no mo : Nat) (to : Nat → Bool) (v : Int) (Kst : KS) (Kret : KR) (x : St16 ⊕ Rt16) (hS : HS 2 400 ((I16 ar nr mr tr vr gr ao no mo to v)) Kst x) (hR : HR 2 400 ((V16 ar nr mr tr vr gr ao no mo to v)) (fun r => [newL (2 + 1) ((N16 ar nr mr tr vr gr ao no mo to v) r) ++ [(0, (false, .cols mr [.int .i64 tr, .int .i64 vr, .int .i64 gr])), (1, (false, .cols mo [.bool to]))]]) Kret x) (x0 : Int) (x1 : List (Int × Int × Int)) (x2 : List Bool) (h : (bif (decide (x0 < (↑nr : Int)))
 then (bif (decide ((0 : Int) ≤ x0 ∧ x0 < (↑nr : Int)))
 then (bif (decide (Int.toNat x0 + ar < mr))
 then (bif (decide (List.length x1 + 1 ≤ 1000000))
 then (bif (decide (List.length x1 ≤ List.length x1))
 then (bif (decide ((0 : Int) ≤ x0 ∧ x0 < (↑no : Int)))
 then (bif (decide (Int.toNat x0 + ao < mo))
 then (bif (to (Int.toNat x0 + ao))
 then (bif (decide (v ≥ tr (Int.toNat x0 + ar)))
 then (bif (decide (List.length x2 + 1 ≤ 1000000))
 then (bif (decide (List.length x2 ≤ List.length x2))
 then (bif (lim IntKind.i64 (x0 + (1 : Int)))
 then (some (.inl (.h0 (x0 + (1 : Int)) (S.snoc x1 (tr (Int.toNat x0 + ar), vr (Int.toNat x0 + ar), gr (Int.toNat x0 + ar))) (S.snoc x2 true))))
 else (none))
 else (none))
 else (none))
 else (bif (decide (v ≤ vr (Int.toNat x0 + ar)))
 then (bif (decide (List.length x2 + 1 ≤ 1000000))
 then (bif (decide (List.length x2 ≤ List.length x2))
 then (bif (lim IntKind.i64 (x0 + (1 : Int)))
 then (some (.inl (.h0 (x0 + (1 : Int)) (S.snoc x1 (tr (Int.toNat x0 + ar), vr (Int.toNat x0 + ar), gr (Int.toNat x0 + ar))) (S.snoc x2 false))))
 else (none))
 else (none))
 else (none))
 else (bif (decide (List.length x2 + 1 ≤ 1000000))
 then (bif (decide (List.length x2 ≤ List.length x2))
 then (bif (lim IntKind.i64 (x0 + (1 : Int)))
 then (some (.inl (.h0 (x0 + (1 : Int)) (S.snoc x1 (tr (Int.toNat x0 + ar), vr (Int.toNat x0 + ar), gr (Int.toNat x0 + ar))) (S.snoc x2 true))))
 else (none))
 else (none))
 else (none))))
 else (bif (decide (v ≥ tr (Int.toNat x0 + ar)))
 then (bif (decide (List.length x2 + 1 ≤ 1000000))
 then (bif (decide (List.length x2 ≤ List.length x2))
 then (bif (lim IntKind.i64 (x0 + (1 : Int)))
 then (some (.inl (.h0 (x0 + (1 : Int)) (S.snoc x1 (tr (Int.toNat x0 + ar), vr (Int.toNat x0 + ar), gr (Int.toNat x0 + ar))) (S.snoc x2 true))))
 else (none))
 else (none))
 else (none))
 else (bif (decide (v ≤ vr (Int.toNat x0 + ar)))
 then (bif (decide (List.length x2 + 1 ≤ 1000000))
 then (bif (decide (List.length x2 ≤ List.length x2))
 then (bif (lim IntKind.i64 (x0 + (1 : Int)))
 then (some (.inl (.h0 (x0 + (1 : Int)) (S.snoc x1 (tr (Int.toNat x0 + ar), vr (Int.toNat x0 + ar), gr (Int.toNat x0 + ar))) (S.snoc x2 false))))
 else (none))
 else (none))
 else (none))
 else (bif (decide (List.length x2 + 1 ≤ 1000000))
 then (bif (decide (List.length x2 ≤ List.length x2))
 then (bif (lim IntKind.i64 (x0 + (1 : Int)))
 then (some (.inl (.h0 (x0 + (1 : Int)) (S.snoc x1 (tr (Int.toNat x0 + ar), vr (Int.toNat x0 + ar), gr (Int.toNat x0 + ar))) (S.snoc x2 false))))
 else (none))
 else (none))
 else (none)))))
 else (none))
 else (none))
 else (none))
 else (none))
 else (none))
 else (none))
 else (some (.inr ((0 : Int), x1, x2))) : Option (St16 ⊕ Rt16)) = some x) : T16_0 cond Kst Kret ar nr mr tr vr gr ao no mo to v x0 x1 x2 := by
  unfold T16_0
  exact bif_split h
   (fun c0 h => bif_split h
   (fun c1 h => bif_split h
   (fun c2 h => cond_yes c2 (cond_yes c2 (bif_split h
   (fun c3 h => bif_split h
   (fun c4 h => cond_yes rfl (cond_yes c1 (cond_yes c2 (cond_yes c2 (cond_yes c2 (bif_split h
   (fun c5 h => bif_split h
   (fun c6 h => bif_split h
   (fun c7 h => bif_split h
   (fun c8 h => bif_split h
   (fun c9 h => bif_split h
   (fun c10 h => cond_yes rfl (bif_split h
   (fun c11 h => stop_at hS _ h (fun n => bif Nat.beq n 2 then 2 else bif Nat.beq n 3 then 3 else bif Nat.beq n 4 then 4 else bif Nat.beq n 5 then 8 else bif Nat.beq n 6 then 11 else n) rfl rfl rfl ⟨(rn_int rfl), ⟨(rn_ptr (use_own rfl) rfl rfl), ⟨(rn_ptr (use_own rfl) rfl rfl), ⟨(rn_ptr (use_own rfl) rfl rfl), ⟨(rn_int rfl), trivial⟩⟩⟩⟩⟩ rfl (entl_b (use_own rfl) rfl (by simp) (rb_cells ⟨(rn_loose (use_lo rfl) rfl rfl rfl), (rn_loose (use_lo rfl) rfl rfl rfl), trivial⟩) (entl_b (use_own rfl) rfl (by simp) (rb_cells ⟨rn_nils, rn_nils, trivial⟩) (entl_b (use_own rfl) rfl (by simp) (rb_cells ⟨(rn_own (use_own rfl) rfl (snoc_len' rfl)), (rn_own (use_own rfl) rfl (snoc_len' rfl)), trivial⟩) (entl_new (use_own rfl) rfl (Nat.le_of_eq (snoc_len' rfl)) (rcs_int (col_snoc' (fun (t : Int × Int × Int) => t.1) rfl (fun _ _ => rfl)) (rcs_int (col_snoc' (fun (t : Int × Int × Int) => t.2.1) rfl (fun _ _ => rfl)) (rcs_int (col_snoc' (fun (t : Int × Int × Int) => t.2.2) rfl (fun _ _ => rfl)) rcs_nil))) (entl_new (use_own rfl) rfl (Nat.le_of_eq (snoc_len' rfl)) (rcs_bool (col_snoc' (fun (t : Bool) => t) rfl (fun _ _ => rfl)) rcs_nil) (entl_bor (use_lo rfl) rfl rfl (entl_bor (use_lo rfl) rfl rfl entl_nil))))))))
   (fun c11 h => no_some h)))
   (fun c10 h => no_some h))
   (fun c9 h => no_some h))
   (fun c8 h => bif_split h
   (fun c9 h => bif_split h
   (fun c10 h => bif_split h
   (fun c11 h => cond_yes rfl (bif_split h
   (fun c12 h => stop_at hS _ h (fun n => bif Nat.beq n 2 then 2 else bif Nat.beq n 3 then 3 else bif Nat.beq n 4 then 4 else bif Nat.beq n 5 then 8 else bif Nat.beq n 6 then 11 else n) rfl rfl rfl ⟨(rn_int rfl), ⟨(rn_ptr (use_own rfl) rfl rfl), ⟨(rn_ptr (use_own rfl) rfl rfl), ⟨(rn_ptr (use_own rfl) rfl rfl), ⟨(rn_int rfl), trivial⟩⟩⟩⟩⟩ rfl (entl_b (use_own rfl) rfl (by simp) (rb_cells ⟨(rn_loose (use_lo rfl) rfl rfl rfl), (rn_loose (use_lo rfl) rfl rfl rfl), trivial⟩) (entl_b (use_own rfl) rfl (by simp) (rb_cells ⟨rn_nils, rn_nils, trivial⟩) (entl_b (use_own rfl) rfl (by simp) (rb_cells ⟨(rn_own (use_own rfl) rfl (snoc_len' rfl)), (rn_own (use_own rfl) rfl (snoc_len' rfl)), trivial⟩) (entl_new (use_own rfl) rfl (Nat.le_of_eq (snoc_len' rfl)) (rcs_int (col_snoc' (fun (t : Int × Int × Int) => t.1) rfl (fun _ _ => rfl)) (rcs_int (col_snoc' (fun (t : Int × Int × Int) => t.2.1) rfl (fun _ _ => rfl)) (rcs_int (col_snoc' (fun (t : Int × Int × Int) => t.2.2) rfl (fun _ _ => rfl)) rcs_nil))) (entl_new (use_own rfl) rfl (Nat.le_of_eq (snoc_len' rfl)) (rcs_bool (col_snoc' (fun (t : Bool) => t) rfl (fun _ _ => rfl)) rcs_nil) (entl_bor (use_lo rfl) rfl rfl (entl_bor (use_lo rfl) rfl rfl entl_nil))))))))
   (fun c12 h => no_some h)))
   (fun c11 h => no_some h))
   (fun c10 h => no_some h))
   (fun c9 h => bif_split h
   (fun c10 h => bif_split h
   (fun c11 h => cond_yes rfl (bif_split h
   (fun c12 h => stop_at hS _ h (fun n => bif Nat.beq n 2 then 2 else bif Nat.beq n 3 then 3 else bif Nat.beq n 4 then 4 else bif Nat.beq n 5 then 8 else bif Nat.beq n 6 then 11 else n) rfl rfl rfl ⟨(rn_int rfl), ⟨(rn_ptr (use_own rfl) rfl rfl), ⟨(rn_ptr (use_own rfl) rfl rfl), ⟨(rn_ptr (use_own rfl) rfl rfl), ⟨(rn_int rfl), trivial⟩⟩⟩⟩⟩ rfl (entl_b (use_own rfl) rfl (by simp) (rb_cells ⟨(rn_loose (use_lo rfl) rfl rfl rfl), (rn_loose (use_lo rfl) rfl rfl rfl), trivial⟩) (entl_b (use_own rfl) rfl (by simp) (rb_cells ⟨rn_nils, rn_nils, trivial⟩) (entl_b (use_own rfl) rfl (by simp) (rb_cells ⟨(rn_own (use_own rfl) rfl (snoc_len' rfl)), (rn_own (use_own rfl) rfl (snoc_len' rfl)), trivial⟩) (entl_new (use_own rfl) rfl (Nat.le_of_eq (snoc_len' rfl)) (rcs_int (col_snoc' (fun (t : Int × Int × Int) => t.1) rfl (fun _ _ => rfl)) (rcs_int (col_snoc' (fun (t : Int × Int × Int) => t.2.1) rfl (fun _ _ => rfl)) (rcs_int (col_snoc' (fun (t : Int × Int × Int) => t.2.2) rfl (fun _ _ => rfl)) rcs_nil))) (entl_new (use_own rfl) rfl (Nat.le_of_eq (snoc_len' rfl)) (rcs_bool (col_snoc' (fun (t : Bool) => t) rfl (fun _ _ => rfl)) rcs_nil) (entl_bor (use_lo rfl) rfl rfl (entl_bor (use_lo rfl) rfl rfl entl_nil))))))))
   (fun c12 h => no_some h)))
   (fun c11 h => no_some h))
   (fun c10 h => no_some h))))
   (fun c7 h => bif_split h
   (fun c8 h => bif_split h
   (fun c9 h => bif_split h
   (fun c10 h => cond_yes rfl (bif_split h
   (fun c11 h => stop_at hS _ h (fun n => bif Nat.beq n 2 then 2 else bif Nat.beq n 3 then 3 else bif Nat.beq n 4 then 4 else bif Nat.beq n 5 then 8 else bif Nat.beq n 6 then 11 else n) rfl rfl rfl ⟨(rn_int rfl), ⟨(rn_ptr (use_own rfl) rfl rfl), ⟨(rn_ptr (use_own rfl) rfl rfl), ⟨(rn_ptr (use_own rfl) rfl rfl), ⟨(rn_int rfl), trivial⟩⟩⟩⟩⟩ rfl (entl_b (use_own rfl) rfl (by simp) (rb_cells ⟨(rn_loose (use_lo rfl) rfl rfl rfl), (rn_loose (use_lo rfl) rfl rfl rfl), trivial⟩) (entl_b (use_own rfl) rfl (by simp) (rb_cells ⟨rn_nils, rn_nils, trivial⟩) (entl_b (use_own rfl) rfl (by simp) (rb_cells ⟨(rn_own (use_own rfl) rfl (snoc_len' rfl)), (rn_own (use_own rfl) rfl (snoc_len' rfl)), trivial⟩) (entl_new (use_own rfl) rfl (Nat.le_of_eq (snoc_len' rfl)) (rcs_int (col_snoc' (fun (t : Int × Int × Int) => t.1) rfl (fun _ _ => rfl)) (rcs_int (col_snoc' (fun (t : Int × Int × Int) => t.2.1) rfl (fun _ _ => rfl)) (rcs_int (col_snoc' (fun (t : Int × Int × Int) => t.2.2) rfl (fun _ _ => rfl)) rcs_nil))) (entl_new (use_own rfl) rfl (Nat.le_of_eq (snoc_len' rfl)) (rcs_bool (col_snoc' (fun (t : Bool) => t) rfl (fun _ _ => rfl)) rcs_nil) (entl_bor (use_lo rfl) rfl rfl (entl_bor (use_lo rfl) rfl rfl entl_nil))))))))
   (fun c11 h => no_some h)))
   (fun c10 h => no_some h))
   (fun c9 h => no_some h))
   (fun c8 h => bif_split h
   (fun c9 h => bif_split h
   (fun c10 h => bif_split h
   (fun c11 h => cond_yes rfl (bif_split h
   (fun c12 h => stop_at hS _ h (fun n => bif Nat.beq n 2 then 2 else bif Nat.beq n 3 then 3 else bif Nat.beq n 4 then 4 else bif Nat.beq n 5 then 8 else bif Nat.beq n 6 then 11 else n) rfl rfl rfl ⟨(rn_int rfl), ⟨(rn_ptr (use_own rfl) rfl rfl), ⟨(rn_ptr (use_own rfl) rfl rfl), ⟨(rn_ptr (use_own rfl) rfl rfl), ⟨(rn_int rfl), trivial⟩⟩⟩⟩⟩ rfl (entl_b (use_own rfl) rfl (by simp) (rb_cells ⟨(rn_loose (use_lo rfl) rfl rfl rfl), (rn_loose (use_lo rfl) rfl rfl rfl), trivial⟩) (entl_b (use_own rfl) rfl (by simp) (rb_cells ⟨rn_nils, rn_nils, trivial⟩) (entl_b (use_own rfl) rfl (by simp) (rb_cells ⟨(rn_own (use_own rfl) rfl (snoc_len' rfl)), (rn_own (use_own rfl) rfl (snoc_len' rfl)), trivial⟩) (entl_new (use_own rfl) rfl (Nat.le_of_eq (snoc_len' rfl)) (rcs_int (col_snoc' (fun (t : Int × Int × Int) => t.1) rfl (fun _ _ => rfl)) (rcs_int (col_snoc' (fun (t : Int × Int × Int) => t.2.1) rfl (fun _ _ => rfl)) (rcs_int (col_snoc' (fun (t : Int × Int × Int) => t.2.2) rfl (fun _ _ => rfl)) rcs_nil))) (entl_new (use_own rfl) rfl (Nat.le_of_eq (snoc_len' rfl)) (rcs_bool (col_snoc' (fun (t : Bool) => t) rfl (fun _ _ => rfl)) rcs_nil) (entl_bor (use_lo rfl) rfl rfl (entl_bor (use_lo rfl) rfl rfl entl_nil))))))))
   (fun c12 h => no_some h)))
   (fun c11 h => no_some h))
   (fun c10 h => no_some h))
   (fun c9 h => bif_split h
   (fun c10 h => bif_split h
   (fun c11 h => cond_yes rfl (bif_split h
   (fun c12 h => stop_at hS _ h (fun n => bif Nat.beq n 2 then 2 else bif Nat.beq n 3 then 3 else bif Nat.beq n 4 then 4 else bif Nat.beq n 5 then 8 else bif Nat.beq n 6 then 11 else n) rfl rfl rfl ⟨(rn_int rfl), ⟨(rn_ptr (use_own rfl) rfl rfl), ⟨(rn_ptr (use_own rfl) rfl rfl), ⟨(rn_ptr (use_own rfl) rfl rfl), ⟨(rn_int rfl), trivial⟩⟩⟩⟩⟩ rfl (entl_b (use_own rfl) rfl (by simp) (rb_cells ⟨(rn_loose (use_lo rfl) rfl rfl rfl), (rn_loose (use_lo rfl) rfl rfl rfl), trivial⟩) (entl_b (use_own rfl) rfl (by simp) (rb_cells ⟨rn_nils, rn_nils, trivial⟩) (entl_b (use_own rfl) rfl (by simp) (rb_cells ⟨(rn_own (use_own rfl) rfl (snoc_len' rfl)), (rn_own (use_own rfl) rfl (snoc_len' rfl)), trivial⟩) (entl_new (use_own rfl) rfl (Nat.le_of_eq (snoc_len' rfl)) (rcs_int (col_snoc' (fun (t : Int × Int × Int) => t.1) rfl (fun _ _ => rfl)) (rcs_int (col_snoc' (fun (t : Int × Int × Int) => t.2.1) rfl (fun _ _ => rfl)) (rcs_int (col_snoc' (fun (t : Int × Int × Int) => t.2.2) rfl (fun _ _ => rfl)) rcs_nil))) (entl_new (use_own rfl) rfl (Nat.le_of_eq (snoc_len' rfl)) (rcs_bool (col_snoc' (fun (t : Bool) => t) rfl (fun _ _ => rfl)) rcs_nil) (entl_bor (use_lo rfl) rfl rfl (entl_bor (use_lo rfl) rfl rfl entl_nil))))))))
   (fun c12 h => no_some h)))
   (fun c11 h => no_some h))
   (fun c10 h => no_some h)))))
   (fun c6 h => no_some h))
   (fun c5 h => no_some h)))))))
   (fun c4 h => no_some h))
   (fun c3 h => no_some h))))
   (fun c2 h => no_some h))
   (fun c1 h => no_some h))
   (fun c0 h => ret_at hR _ h (fun n => bif Nat.beq n 3 then 5 else bif Nat.beq n 4 then 6 else n) rfl rfl rfl (rn_tup ⟨(rn_agg ⟨(rn_own (use_own rfl) rfl rfl), (rn_own (use_own rfl) rfl rfl), trivial⟩), (rn_int rfl), trivial⟩) rfl (entl_new (use_own rfl) rfl (Nat.le_of_eq rfl) (rcs_int (fun _ _ => rfl) (rcs_int (fun _ _ => rfl) (rcs_int (fun _ _ => rfl) rcs_nil))) (entl_new (use_own rfl) rfl (Nat.le_of_eq rfl) (rcs_bool (fun _ _ => rfl) rcs_nil) (entl_bor (use_lo rfl) rfl rfl (entl_bor (use_lo rfl) rfl rfl entl_nil)))))
theorem a16 (ar nr mr : Nat) (tr : Nat → Int) (vr : Nat → Int) (gr : Nat → Int) (ao no mo : Nat) (to : Nat → Bool) (v : Int) {r : Rt16} (h : Goes ((q16 ar nr mr tr vr gr ao no mo to v)) ((p16 ar nr mr tr vr gr ao no mo to v)) r) : CallR Try.prog 16 [.agg [.loose ⟨0, 3, ar, 0⟩ nr, .loose ⟨1, 1, ao, 0⟩ no], .int .i64 v] [[(0, (false, .cols mr [.int .i64 tr, .int .i64 vr, .int .i64 gr])), (1, (false, .cols mo [.bool to]))]] 2 ((V16 ar nr mr tr vr gr ao no mo to v) r) ((fun r => [newL (2 + 1) ((N16 ar nr mr tr vr gr ao no mo to v) r) ++ [(0, (false, .cols mr [.int .i64 tr, .int .i64 vr, .int .i64 gr])), (1, (false, .cols mo [.bool to]))]]) r) 400 ∧ ∃ F, Try.prog.funcs[16]? = some F ∧ F.body.isSome = true ∧ (F.name == "runtime.NumGoroutine") = false := by
  refine dec_calls (f := 16) (lo := 2) (hi := 400) (H := [[(0, (false, .cols mr [.int .i64 tr, .int .i64 vr, .int .i64 gr])), (1, (false, .cols mo [.bool to]))]]) (args := [.agg [.loose ⟨0, 3, ar, 0⟩ nr, .loose ⟨1, 1, ao, 0⟩ no], .int .i64 v]) Try.envOk Try.mixed yB5_ok ((I16 ar nr mr tr vr gr ao no mo to v)) ((V16 ar nr mr tr vr gr ao no mo to v)) (fun r => [newL (2 + 1) ((N16 ar nr mr tr vr gr ao no mo to v) r) ++ [(0, (false, .cols mr [.int .i64 tr, .int .i64 vr, .int .i64 gr])), (1, (false, .cols mo [.bool to]))]]) (fn := mkFn Try.f16) (ts := [1, 2, 4, 7, 8]) (n := 400) rfl (by decide) (by simp) (names_of rfl) ?_ ?_ ?_ h
  · intro s; cases s <;> exact ⟨hd_ok _ _, by simp [I16], names_of rfl, Nat.le_of_ble_eq_true rfl⟩
  · intro Kst Kret x hS hR h
    exact Holds.eq (te16 cond Kst Kret ar nr mr tr vr gr ao no mo to v) (be16 ar nr mr tr vr gr ao no mo to v Kst Kret x hS hR h)
  · intro Kst Kret x hS hR s h
    cases s with
    | h0 x0 x1 x2 => exact Holds.eq (t16_0 cond Kst Kret ar nr mr tr vr gr ao no mo to v x0 x1 x2) (b16_0 ar nr mr tr vr gr ao no mo to v Kst Kret x hS hR x0 x1 x2 h)
noncomputable def k16 : Con := ⟨16, [.agg [.list [.int .i64, .int .i64, .int .i64], .list [.bool]], .one (.plain (.int .i64))], fun (x : ((Nat × Nat × Nat × (Nat → Int) × (Nat → Int) × (Nat → Int) × Unit) × (Nat × Nat × Nat × (Nat → Bool) × Unit) × Unit) × Int × Unit) => (fun (ar nr mr : Nat) (tr : Nat → Int) (vr : Nat → Int) (gr : Nat → Int) (ao no mo : Nat) (to : Nat → Bool) (v : Int) => decide (ar + nr ≤ mr ∧ nr ≤ 1000000 ∧ ao + no ≤ mo ∧ no ≤ 1000000)) x.1.1.1 x.1.1.2.1 x.1.1.2.2.1 x.1.1.2.2.2.1 x.1.1.2.2.2.2.1 x.1.1.2.2.2.2.2.1 x.1.2.1.1 x.1.2.1.2.1 x.1.2.1.2.2.1 x.1.2.1.2.2.2.1 x.2.1, fun (x : ((Nat × Nat × Nat × (Nat → Int) × (Nat → Int) × (Nat → Int) × Unit) × (Nat × Nat × Nat × (Nat → Bool) × Unit) × Unit) × Int × Unit) => (fun (ar nr mr : Nat) (tr : Nat → Int) (vr : Nat → Int) (gr : Nat → Int) (ao no mo : Nat) (to : Nat → Bool) (v : Int) => (V16 ar nr mr tr vr gr ao no mo to v) ((S.histS nr (fun j => tr (j + ar)) (fun j => vr (j + ar)) (fun j => gr (j + ar)) no (fun j => to (j + ao)) 1 (fun j => S.lit [v] 0 j)))) x.1.1.1 x.1.1.2.1 x.1.1.2.2.1 x.1.1.2.2.2.1 x.1.1.2.2.2.2.1 x.1.1.2.2.2.2.2.1 x.1.2.1.1 x.1.2.1.2.1 x.1.2.1.2.2.1 x.1.2.1.2.2.2.1 x.2.1, fun (x : ((Nat × Nat × Nat × (Nat → Int) × (Nat → Int) × (Nat → Int) × Unit) × (Nat × Nat × Nat × (Nat → Bool) × Unit) × Unit) × Int × Unit) => (fun (ar nr mr : Nat) (tr : Nat → Int) (vr : Nat → Int) (gr : Nat → Int) (ao no mo : Nat) (to : Nat → Bool) (v : Int) => (N16 ar nr mr tr vr gr ao no mo to v) ((S.histS nr (fun j => tr (j + ar)) (fun j => vr (j + ar)) (fun j => gr (j + ar)) no (fun j => to (j + ao)) 1 (fun j => S.lit [v] 0 j)))) x.1.1.1 x.1.1.2.1 x.1.1.2.2.1 x.1.1.2.2.2.1 x.1.1.2.2.2.2.1 x.1.1.2.2.2.2.2.1 x.1.2.1.1 x.1.2.1.2.1 x.1.2.1.2.2.1 x.1.2.1.2.2.2.1 x.2.1, fun _ _ => .dead⟩
theorem s16' (ar nr mr : Nat) (tr : Nat → Int) (vr : Nat → Int) (gr : Nat → Int) (ao no mo : Nat) (to : Nat → Bool) (v : Int) (hp : ar + nr ≤ mr ∧ nr ≤ 1000000 ∧ ao + no ≤ mo ∧ no ≤ 1000000) (hv : S.magE nr (fun j => tr (j + ar)) (fun j => vr (j + ar)) (fun j => gr (j + ar)) no = 0) : ∀ (k i : Nat) (lr : List (Int × Int × Int)) (lo : List Bool), i + k = nr → Holds (lr = S.mkl i fun j => (tr (j + ar), vr (j + ar), gr (j + ar))) → Holds (lo = S.mkl i fun j => S.aft (tr (j + ar)) (vr (j + ar)) (to (j + ao)) v) → Comes (q16 ar nr mr tr vr gr ao no mo to v) (.h0 (i : Int) lr lo) ((0, S.mkl nr fun j => (tr (j + ar), vr (j + ar), gr (j + ar)), S.mkl nr fun j => S.aft (tr (j + ar)) (vr (j + ar)) (to (j + ao)) v)) := by
  obtain ⟨hp1, hp2, hp3, hp4⟩ := hp
  obtain ⟨v1, v2, v3, v4⟩ := mag_ok hv
  intro k
  induction k with
  | zero =>
    intro i lr lo hi elr elo
    have hlr : lr.length = i := by rw [elr.get]; exact mkl_len
    have hlo : lo.length = i := by rw [elo.get]; exact mkl_len
    apply Comes.of
    show Goes _ _ _
    unfold q16
    repeat' first
      | with_reducible refine goes_if (fun h => ?_) (fun h => ?_) <;> (try simp only [lim64, decide_eq_true_eq, decide_eq_false_iff_not, Int.toNat_natCast, toNat_pred, toNat_succ, Option.getD_some, Option.getD_none, Bool.not_eq_true', Bool.not_eq_false', Bool.and_eq_true, Bool.or_eq_true, Bool.and_eq_false_iff, Bool.or_eq_false_iff, bne_iff_ne, beq_iff_eq, bne_eq_false_iff_eq, beq_eq_false_iff_ne, ne_eq, not_and, Int.not_le, Int.not_lt, ge_iff_le, gt_iff_lt, Nat.not_lt, Nat.not_le, Bool.not_eq_true, Bool.not_eq_false, Bool.true_eq_false, Bool.false_eq_true, not_false_eq_true, not_true_eq_false] at h)
      | exact goes_none.mpr (by omega)
    all_goals first | (exfalso; omega) | (obtain rfl : nr = i := (by omega); rw [elr.get]; rw [elo.get]; rfl)
  | succ k ih =>
    intro i lr lo hi elr elo
    have hlr : lr.length = i := by rw [elr.get]; exact mkl_len
    have hlo : lo.length = i := by rw [elo.get]; exact mkl_len
    apply Comes.of
    show Goes _ _ _
    unfold q16
    repeat' first
      | with_reducible refine goes_if (fun h => ?_) (fun h => ?_) <;> (try simp only [lim64, decide_eq_true_eq, decide_eq_false_iff_not, Int.toNat_natCast, toNat_pred, toNat_succ, Option.getD_some, Option.getD_none, Bool.not_eq_true', Bool.not_eq_false', Bool.and_eq_true, Bool.or_eq_true, Bool.and_eq_false_iff, Bool.or_eq_false_iff, bne_iff_ne, beq_iff_eq, bne_eq_false_iff_eq, beq_eq_false_iff_ne, ne_eq, not_and, Int.not_le, Int.not_lt, ge_iff_le, gt_iff_lt, Nat.not_lt, Nat.not_le, Bool.not_eq_true, Bool.not_eq_false, Bool.true_eq_false, Bool.false_eq_true, not_false_eq_true, not_true_eq_false] at h)
      | exact goes_none.mpr (by omega)
    all_goals first
      | (exfalso; omega)
      | (refine ih (i + 1) _ _ (by omega) ⟨by rw [elr.get, mkl_succ]; rfl⟩ ⟨?_⟩; rw [elo.get, mkl_succ]; refine congrArg (S.snoc _) ?_; exact (by simp only [S.aft, Bool.cond_eq_ite, decide_eq_true_eq, Int.toNat_natCast]; (repeat' split) <;> first | rfl | omega | (symm; assumption) | (exfalso; simp_all; done)))
      | (refine ih (i + 1) _ _ (by omega) ⟨?_⟩ ⟨?_⟩ <;> (skip))
theorem hist1_no {n no : Nat} {u d w : Nat → Int} {o : Nat → Bool} {v e : Int} (h : S.histE n u d w no 1 (fun j => S.lit [v] 0 j) = e) (h0 : e ≠ 0) : S.histS n u d w no o 1 (fun j => S.lit [v] 0 j) = (e, [], []) := by
  unfold S.histS; rw [h, if_neg h0]
theorem hist1_yes {n no : Nat} {u d w : Nat → Int} {o : Nat → Bool} {v : Int} (h : S.histE n u d w no 1 (fun j => S.lit [v] 0 j) = 0) : S.histS n u d w no o 1 (fun j => S.lit [v] 0 j) = (0, S.mkl n fun j => (u j, d j, w j), S.mkl no fun j => S.aft (u j) (d j) (o j) v) := by
  unfold S.histS; rw [if_pos h]; rfl
theorem s16 (ar nr mr : Nat) (tr : Nat → Int) (vr : Nat → Int) (gr : Nat → Int) (ao no mo : Nat) (to : Nat → Bool) (v : Int) (hp : ar + nr ≤ mr ∧ nr ≤ 1000000 ∧ ao + no ≤ mo ∧ no ≤ 1000000) : Goes ((q16 ar nr mr tr vr gr ao no mo to v)) ((p16 ar nr mr tr vr gr ao no mo to v)) ((S.histS nr (fun j => tr (j + ar)) (fun j => vr (j + ar)) (fun j => gr (j + ar)) no (fun j => to (j + ao)) 1 (fun j => S.lit [v] 0 j))) := by
  have hone := hist_one (n := nr) (u := (fun j => tr (j + ar))) (d := (fun j => vr (j + ar))) (w := (fun j => gr (j + ar))) (no := no) (x := v)
  by_cases hv : S.magE nr (fun j => tr (j + ar)) (fun j => vr (j + ar)) (fun j => gr (j + ar)) no = 0
  · have hm := s16' ar nr mr tr vr gr ao no mo to v hp hv nr 0 [] [] (by omega) ⟨rfl⟩ ⟨rfl⟩
    obtain ⟨v1, v2, v3, v4⟩ := mag_ok hv
    rw [if_pos hv] at hone
    by_cases hx : -1099511627776 ≤ v ∧ v ≤ 1099511627776
    · rw [if_pos hx] at hone
      rw [hist1_yes hone]
      subst v3
      obtain ⟨hp1, hp2, hp3, hp4⟩ := hp
      show Goes _ _ _
      unfold p16
      repeat' first
        | with_reducible refine goes_if (fun h => ?_) (fun h => ?_) <;> (try simp only [lim64, decide_eq_true_eq, decide_eq_false_iff_not, Int.toNat_natCast, toNat_pred, toNat_succ, Option.getD_some, Option.getD_none, Bool.not_eq_true', Bool.not_eq_false', Bool.and_eq_true, Bool.or_eq_true, Bool.and_eq_false_iff, Bool.or_eq_false_iff, bne_iff_ne, beq_iff_eq, bne_eq_false_iff_eq, beq_eq_false_iff_ne, ne_eq, not_and, Int.not_le, Int.not_lt, ge_iff_le, gt_iff_lt, Nat.not_lt, Nat.not_le, Bool.not_eq_true, Bool.not_eq_false, Bool.true_eq_false, Bool.false_eq_true, not_false_eq_true, not_true_eq_false] at h)
        | exact goes_none.mpr (by omega)
      all_goals first | (exfalso; omega) | (exfalso; exact absurd hv (by assumption)) | exact hm
    · rw [if_neg hx] at hone
      rw [hist1_no hone (by decide)]
      obtain ⟨hp1, hp2, hp3, hp4⟩ := hp
      show Goes _ _ _
      unfold p16
      repeat' first
        | with_reducible refine goes_if (fun h => ?_) (fun h => ?_) <;> (try simp only [lim64, decide_eq_true_eq, decide_eq_false_iff_not, Int.toNat_natCast, toNat_pred, toNat_succ, Option.getD_some, Option.getD_none, Bool.not_eq_true', Bool.not_eq_false', Bool.and_eq_true, Bool.or_eq_true, Bool.and_eq_false_iff, Bool.or_eq_false_iff, bne_iff_ne, beq_iff_eq, bne_eq_false_iff_eq, beq_eq_false_iff_ne, ne_eq, not_and, Int.not_le, Int.not_lt, ge_iff_le, gt_iff_lt, Nat.not_lt, Nat.not_le, Bool.not_eq_true, Bool.not_eq_false, Bool.true_eq_false, Bool.false_eq_true, not_false_eq_true, not_true_eq_false] at h)
        | exact goes_none.mpr (by omega)
      all_goals first | (exfalso; omega) | (exfalso; exact absurd hv (by assumption)) | rfl
  · rw [if_neg hv] at hone
    rw [hist1_no hone hv]
    obtain ⟨hp1, hp2, hp3, hp4⟩ := hp
    show Goes _ _ _
    unfold p16
    repeat' first
      | with_reducible refine goes_if (fun h => ?_) (fun h => ?_) <;> (try simp only [lim64, decide_eq_true_eq, decide_eq_false_iff_not, Int.toNat_natCast, toNat_pred, toNat_succ, Option.getD_some, Option.getD_none, Bool.not_eq_true', Bool.not_eq_false', Bool.and_eq_true, Bool.or_eq_true, Bool.and_eq_false_iff, Bool.or_eq_false_iff, bne_iff_ne, beq_iff_eq, bne_eq_false_iff_eq, beq_eq_false_iff_ne, ne_eq, not_and, Int.not_le, Int.not_lt, ge_iff_le, gt_iff_lt, Nat.not_lt, Nat.not_le, Bool.not_eq_true, Bool.not_eq_false, Bool.true_eq_false, Bool.false_eq_true, not_false_eq_true, not_true_eq_false] at h)
      | exact goes_none.mpr (by omega)
    all_goals first | (exfalso; omega) | (exfalso; exact hv (by assumption)) | rfl

theorem k16_ok : k16.ok Try.prog := by
  intro x hx
  obtain ⟨⟨⟨ar, nr, mr, tr, vr, gr, _⟩, ⟨ao, no, mo, to, _⟩, _⟩, v, _⟩ := x
  obtain ⟨h1, h2⟩ := a16 ar nr mr tr vr gr ao no mo to v (s16 ar nr mr tr vr gr ao no mo to v (of_decide_eq_true hx))
  exact ⟨⟨400, (by decide : 2 + 1 + 2 ≤ 400), h1⟩, h2⟩


end Go.Ev
