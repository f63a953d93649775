/-
  The law of Cut.
-/
import Derived.Test.YtffldkecndnbiaaC4
namespace Go.Ev
open Go.Proofs
set_option linter.unusedVariables false
set_option linter.unusedSimpArgs false
set_option maxRecDepth 100000
abbrev St7 := Empty
abbrev Rt7 := Bool
noncomputable def V7 (ap np mp : Nat) (tp : Nat → Int) (vp : Nat → Int) (gp : Nat → Int) (wp : Nat → Int) (na : Int) (nb : Int) (r : Rt7) : PV := PV.bool r
noncomputable def N7 (ap np mp : Nat) (tp : Nat → Int) (vp : Nat → Int) (gp : Nat → Int) (wp : Nat → Int) (na : Int) (nb : Int) (r : Rt7) : List Blk := []
noncomputable def I7 (ap np mp : Nat) (tp : Nat → Int) (vp : Nat → Int) (gp : Nat → Int) (wp : Nat → Int) (na : Int) (nb : Int) : St7 → Hd := fun s => s.elim
noncomputable def q7 (ap np mp : Nat) (tp : Nat → Int) (vp : Nat → Int) (gp : Nat → Int) (wp : Nat → Int) (na : Int) (nb : Int) : St7 → Option (St7 ⊕ Rt7) := fun s => s.elim
noncomputable def p7 (ap np mp : Nat) (tp : Nat → Int) (vp : Nat → Int) (gp : Nat → Int) (wp : Nat → Int) (na : Int) (nb : Int) : Option (St7 ⊕ Rt7) := bif (decide ((↑np : Int) ≤ (70 : Int)))
 then (bif (decide (ap + np ≤ mp ∧ np ≤ 1000000))
 then (bif (decide (0 + np ≤ np ∧ np ≤ 1000000))
 then (bif (Prod.fst
 (S.cutS np (fun (q : Nat) => tp (q + ap)) (fun (q : Nat) => vp (q + ap)) (fun (q : Nat) => gp (q + ap))
 (fun (q : Nat) => wp (q + ap)) na) ==
 Prod.fst
 (S.cutS np (fun (q : Nat) => tp (q + ap)) (fun (q : Nat) => vp (q + ap)) (fun (q : Nat) => gp (q + ap))
 (fun (q : Nat) => wp (q + ap)) na))
 then (bif (decide
 (0 +
 List.length
 (Prod.snd
 (S.cutS np (fun (q : Nat) => tp (q + ap)) (fun (q : Nat) => vp (q + ap))
 (fun (q : Nat) => gp (q + ap)) (fun (q : Nat) => wp (q + ap)) na)) ≤
 List.length
 (Prod.snd
 (S.cutS np (fun (q : Nat) => tp (q + ap)) (fun (q : Nat) => vp (q + ap)) (fun (q : Nat) => gp (q + ap))
 (fun (q : Nat) => wp (q + ap)) na)) ∧
 List.length
 (Prod.snd
 (S.cutS np (fun (q : Nat) => tp (q + ap)) (fun (q : Nat) => vp (q + ap))
 (fun (q : Nat) => gp (q + ap)) (fun (q : Nat) => wp (q + ap)) na)) ≤
 1000000 ∧
 0 +
 List.length
 (Prod.snd
 (S.cutS np (fun (q : Nat) => tp (q + ap)) (fun (q : Nat) => vp (q + ap))
 (fun (q : Nat) => gp (q + ap)) (fun (q : Nat) => wp (q + ap)) na)) ≤
 List.length
 (Prod.snd
 (S.cutS np (fun (q : Nat) => tp (q + ap)) (fun (q : Nat) => vp (q + ap))
 (fun (q : Nat) => gp (q + ap)) (fun (q : Nat) => wp (q + ap)) na)) ∧
 List.length
 (Prod.snd
 (S.cutS np (fun (q : Nat) => tp (q + ap)) (fun (q : Nat) => vp (q + ap))
 (fun (q : Nat) => gp (q + ap)) (fun (q : Nat) => wp (q + ap)) na)) ≤
 1000000))
 then (bif (decide
 ((S.mkl
 (List.length
 (Prod.snd
 (S.cutS np (fun (q : Nat) => tp (q + ap)) (fun (q : Nat) => vp (q + ap)) (fun (q : Nat) => gp (q + ap))
 (fun (q : Nat) => wp (q + ap)) na)))
 fun (j : Nat) =>
 S.at'
 (Prod.snd
 (S.cutS np (fun (q : Nat) => tp (q + ap)) (fun (q : Nat) => vp (q + ap)) (fun (q : Nat) => gp (q + ap))
 (fun (q : Nat) => wp (q + ap)) na))
 j) =
 S.mkl
 (List.length
 (Prod.snd
 (S.cutS np (fun (q : Nat) => tp (q + ap)) (fun (q : Nat) => vp (q + ap)) (fun (q : Nat) => gp (q + ap))
 (fun (q : Nat) => wp (q + ap)) na)))
 fun (j : Nat) =>
 S.at'
 (Prod.snd
 (S.cutS np (fun (q : Nat) => tp (q + ap)) (fun (q : Nat) => vp (q + ap)) (fun (q : Nat) => gp (q + ap))
 (fun (q : Nat) => wp (q + ap)) na))
 j))
 then (bif (Prod.snd
 (S.comS np (fun (q : Nat) => tp (q + ap)) (fun (q : Nat) => vp (q + ap)) (fun (q : Nat) => gp (q + ap))
 (fun (q : Nat) => wp (q + ap)) na nb) ==
 Prod.snd
 (S.comS np (fun (q : Nat) => tp (q + ap)) (fun (q : Nat) => vp (q + ap)) (fun (q : Nat) => gp (q + ap))
 (fun (q : Nat) => wp (q + ap)) na nb))
 then (bif (Prod.fst
 (S.comS np (fun (q : Nat) => tp (q + ap)) (fun (q : Nat) => vp (q + ap)) (fun (q : Nat) => gp (q + ap))
 (fun (q : Nat) => wp (q + ap)) na nb) ==
 Prod.fst
 (S.comS np (fun (q : Nat) => tp (q + ap)) (fun (q : Nat) => vp (q + ap)) (fun (q : Nat) => gp (q + ap))
 (fun (q : Nat) => wp (q + ap)) na nb))
 then (some (.inr (true)))
 else (some (.inr (false))))
 else (some (.inr (false))))
 else (some (.inr (false))))
 else (none))
 else (some (.inr (false))))
 else (none))
 else (none))
 else (some (.inr (true)))
noncomputable def Te7 (test : Bool → Prop → Prop → Prop) (Kst : KS) (Kret : KR) (ap np mp : Nat) (tp : Nat → Int) (vp : Nat → Int) (gp : Nat → Int) (wp : Nat → Int) (na : Int) (nb : Int) : Prop :=
  test (true)
 (test (true)
 (test (decide ((↑np : Int) ≤ (70 : Int)))
 (test (decide (ap + np ≤ mp ∧ np ≤ 1000000))
 (test (decide (0 + np ≤ np ∧ np ≤ 1000000))
 (test (decide (ap + np ≤ mp ∧ np ≤ 1000000))
 (test (decide (ap + np ≤ mp ∧ np ≤ 1000000))
 (test (decide (0 + np ≤ np ∧ np ≤ 1000000))
 (test (decide (ap + np ≤ mp ∧ np ≤ 1000000))
 (test (Prod.fst
 (S.cutS np (fun (q : Nat) => tp (q + ap)) (fun (q : Nat) => vp (q + ap)) (fun (q : Nat) => gp (q + ap))
 (fun (q : Nat) => wp (q + ap)) na) ==
 Prod.fst
 (S.cutS np (fun (q : Nat) => tp (q + ap)) (fun (q : Nat) => vp (q + ap)) (fun (q : Nat) => gp (q + ap))
 (fun (q : Nat) => wp (q + ap)) na))
 (test (decide
 (0 +
 List.length
 (Prod.snd
 (S.cutS np (fun (q : Nat) => tp (q + ap)) (fun (q : Nat) => vp (q + ap))
 (fun (q : Nat) => gp (q + ap)) (fun (q : Nat) => wp (q + ap)) na)) ≤
 List.length
 (Prod.snd
 (S.cutS np (fun (q : Nat) => tp (q + ap)) (fun (q : Nat) => vp (q + ap)) (fun (q : Nat) => gp (q + ap))
 (fun (q : Nat) => wp (q + ap)) na)) ∧
 List.length
 (Prod.snd
 (S.cutS np (fun (q : Nat) => tp (q + ap)) (fun (q : Nat) => vp (q + ap))
 (fun (q : Nat) => gp (q + ap)) (fun (q : Nat) => wp (q + ap)) na)) ≤
 1000000 ∧
 0 +
 List.length
 (Prod.snd
 (S.cutS np (fun (q : Nat) => tp (q + ap)) (fun (q : Nat) => vp (q + ap))
 (fun (q : Nat) => gp (q + ap)) (fun (q : Nat) => wp (q + ap)) na)) ≤
 List.length
 (Prod.snd
 (S.cutS np (fun (q : Nat) => tp (q + ap)) (fun (q : Nat) => vp (q + ap))
 (fun (q : Nat) => gp (q + ap)) (fun (q : Nat) => wp (q + ap)) na)) ∧
 List.length
 (Prod.snd
 (S.cutS np (fun (q : Nat) => tp (q + ap)) (fun (q : Nat) => vp (q + ap))
 (fun (q : Nat) => gp (q + ap)) (fun (q : Nat) => wp (q + ap)) na)) ≤
 1000000))
 (test (decide
 ((S.mkl
 (List.length
 (Prod.snd
 (S.cutS np (fun (q : Nat) => tp (q + ap)) (fun (q : Nat) => vp (q + ap)) (fun (q : Nat) => gp (q + ap))
 (fun (q : Nat) => wp (q + ap)) na)))
 fun (j : Nat) =>
 S.at'
 (Prod.snd
 (S.cutS np (fun (q : Nat) => tp (q + ap)) (fun (q : Nat) => vp (q + ap)) (fun (q : Nat) => gp (q + ap))
 (fun (q : Nat) => wp (q + ap)) na))
 j) =
 S.mkl
 (List.length
 (Prod.snd
 (S.cutS np (fun (q : Nat) => tp (q + ap)) (fun (q : Nat) => vp (q + ap)) (fun (q : Nat) => gp (q + ap))
 (fun (q : Nat) => wp (q + ap)) na)))
 fun (j : Nat) =>
 S.at'
 (Prod.snd
 (S.cutS np (fun (q : Nat) => tp (q + ap)) (fun (q : Nat) => vp (q + ap)) (fun (q : Nat) => gp (q + ap))
 (fun (q : Nat) => wp (q + ap)) na))
 j))
 (test (Prod.snd
 (S.comS np (fun (q : Nat) => tp (q + ap)) (fun (q : Nat) => vp (q + ap)) (fun (q : Nat) => gp (q + ap))
 (fun (q : Nat) => wp (q + ap)) na nb) ==
 Prod.snd
 (S.comS np (fun (q : Nat) => tp (q + ap)) (fun (q : Nat) => vp (q + ap)) (fun (q : Nat) => gp (q + ap))
 (fun (q : Nat) => wp (q + ap)) na nb))
 (test (Prod.fst
 (S.comS np (fun (q : Nat) => tp (q + ap)) (fun (q : Nat) => vp (q + ap)) (fun (q : Nat) => gp (q + ap))
 (fun (q : Nat) => wp (q + ap)) na nb) ==
 Prod.fst
 (S.comS np (fun (q : Nat) => tp (q + ap)) (fun (q : Nat) => vp (q + ap)) (fun (q : Nat) => gp (q + ap))
 (fun (q : Nat) => wp (q + ap)) na nb))
 (Kret (PV.tf true) ([[(0, false,
 Blk.cols mp
 [Col.int IntKind.i64 tp, Col.int IntKind.i64 vp, Col.int IntKind.i64 gp,
 Col.int IntKind.i64 wp])]]) (19))
 (Kret (PV.tf false) ([[(0, false,
 Blk.cols mp
 [Col.int IntKind.i64 tp, Col.int IntKind.i64 vp, Col.int IntKind.i64 gp,
 Col.int IntKind.i64 wp])]]) (19)))
 (Kret (PV.tf false) ([[(0, false,
 Blk.cols mp
 [Col.int IntKind.i64 tp, Col.int IntKind.i64 vp, Col.int IntKind.i64 gp,
 Col.int IntKind.i64 wp])]]) (19)))
 (Kret (PV.tf false) ([[(0, false,
 Blk.cols mp
 [Col.int IntKind.i64 tp, Col.int IntKind.i64 vp, Col.int IntKind.i64 gp,
 Col.int IntKind.i64 wp])]]) (19)))
 (False))
 (Kret (PV.tf false) ([[(0, false,
 Blk.cols mp
 [Col.int IntKind.i64 tp, Col.int IntKind.i64 vp, Col.int IntKind.i64 gp,
 Col.int IntKind.i64 wp])]]) (18)))
 (False))
 (False))
 (False))
 (False))
 (False))
 (False))
 (test (true)
 (test (true)
 (Kret (PV.tf true) ([[(0, false,
 Blk.cols mp
 [Col.int IntKind.i64 tp, Col.int IntKind.i64 vp, Col.int IntKind.i64 gp,
 Col.int IntKind.i64 wp])]]) (5))
 (Kret (PV.tf false) ([[(0, false,
 Blk.cols mp
 [Col.int IntKind.i64 tp, Col.int IntKind.i64 vp, Col.int IntKind.i64 gp,
 Col.int IntKind.i64 wp])]]) (5)))
 (False)))
 (test (true)
 (test (true)
 (Kret (PV.tf true) ([[(0, false,
 Blk.cols mp
 [Col.int IntKind.i64 tp, Col.int IntKind.i64 vp, Col.int IntKind.i64 gp,
 Col.int IntKind.i64 wp])]]) (4))
 (Kret (PV.tf false) ([[(0, false,
 Blk.cols mp
 [Col.int IntKind.i64 tp, Col.int IntKind.i64 vp, Col.int IntKind.i64 gp,
 Col.int IntKind.i64 wp])]]) (4)))
 (False)))
 (False)
set_option maxRecDepth 100000 in
theorem te7 (test : Bool → Prop → Prop → Prop) (Kst : KS) (Kret : KR) (ap np mp : Nat) (tp : Nat → Int) (vp : Nat → Int) (gp : Nat → Int) (wp : Nat → Int) (na : Int) (nb : Int) : run test Try.env true (xJ test) true 400 ⟨7, [.cd (mkFn Try.f7).body], argT 0 [.agg [.loose ⟨0, 4, ap, 0⟩ np], .int .i64 na, .int .i64 nb], [[], [(0, (false, .cols mp [.int .i64 tp, .int .i64 vp, .int .i64 gp, .int .i64 wp]))]], 1⟩ (proj 1 [] Kst Kret) =
  Te7 test Kst Kret ap np mp tp vp gp wp na nb := by kernel_rfl
set_option maxRecDepth 100000 in
theorem be7 (ap np mp : Nat) (tp : Nat → Int) (vp : Nat → Int) (gp : Nat → Int) (wp : Nat → Int) (na : Int) (nb : Int) (Kst : KS) (Kret : KR) (x : St7 ⊕ Rt7) (hS : HS 1 400 ((I7 ap np mp tp vp gp wp na nb)) Kst x) (hR : HR 1 400 ((V7 ap np mp tp vp gp wp na nb)) (fun r => [newL (1 + 1) ((N7 ap np mp tp vp gp wp na nb) r) ++ [(0, (false, .cols mp [.int .i64 tp, .int .i64 vp, .int .i64 gp, .int .i64 wp]))]]) Kret x) (h : (bif (decide ((↑np : Int) ≤ (70 : Int)))
 then (bif (decide (ap + np ≤ mp ∧ np ≤ 1000000))
 then (bif (decide (0 + np ≤ np ∧ np ≤ 1000000))
 then (bif (Prod.fst
 (S.cutS np (fun (q : Nat) => tp (q + ap)) (fun (q : Nat) => vp (q + ap)) (fun (q : Nat) => gp (q + ap))
 (fun (q : Nat) => wp (q + ap)) na) ==
 Prod.fst
 (S.cutS np (fun (q : Nat) => tp (q + ap)) (fun (q : Nat) => vp (q + ap)) (fun (q : Nat) => gp (q + ap))
 (fun (q : Nat) => wp (q + ap)) na))
 then (bif (decide
 (0 +
 List.length
 (Prod.snd
 (S.cutS np (fun (q : Nat) => tp (q + ap)) (fun (q : Nat) => vp (q + ap))
 (fun (q : Nat) => gp (q + ap)) (fun (q : Nat) => wp (q + ap)) na)) ≤
 List.length
 (Prod.snd
 (S.cutS np (fun (q : Nat) => tp (q + ap)) (fun (q : Nat) => vp (q + ap)) (fun (q : Nat) => gp (q + ap))
 (fun (q : Nat) => wp (q + ap)) na)) ∧
 List.length
 (Prod.snd
 (S.cutS np (fun (q : Nat) => tp (q + ap)) (fun (q : Nat) => vp (q + ap))
 (fun (q : Nat) => gp (q + ap)) (fun (q : Nat) => wp (q + ap)) na)) ≤
 1000000 ∧
 0 +
 List.length
 (Prod.snd
 (S.cutS np (fun (q : Nat) => tp (q + ap)) (fun (q : Nat) => vp (q + ap))
 (fun (q : Nat) => gp (q + ap)) (fun (q : Nat) => wp (q + ap)) na)) ≤
 List.length
 (Prod.snd
 (S.cutS np (fun (q : Nat) => tp (q + ap)) (fun (q : Nat) => vp (q + ap))
 (fun (q : Nat) => gp (q + ap)) (fun (q : Nat) => wp (q + ap)) na)) ∧
 List.length
 (Prod.snd
 (S.cutS np (fun (q : Nat) => tp (q + ap)) (fun (q : Nat) => vp (q + ap))
 (fun (q : Nat) => gp (q + ap)) (fun (q : Nat) => wp (q + ap)) na)) ≤
 1000000))
 then (bif (decide
 ((S.mkl
 (List.length
 (Prod.snd
 (S.cutS np (fun (q : Nat) => tp (q + ap)) (fun (q : Nat) => vp (q + ap)) (fun (q : Nat) => gp (q + ap))
 (fun (q : Nat) => wp (q + ap)) na)))
 fun (j : Nat) =>
 S.at'
 (Prod.snd
 (S.cutS np (fun (q : Nat) => tp (q + ap)) (fun (q : Nat) => vp (q + ap)) (fun (q : Nat) => gp (q + ap))
 (fun (q : Nat) => wp (q + ap)) na))
 j) =
 S.mkl
 (List.length
 (Prod.snd
 (S.cutS np (fun (q : Nat) => tp (q + ap)) (fun (q : Nat) => vp (q + ap)) (fun (q : Nat) => gp (q + ap))
 (fun (q : Nat) => wp (q + ap)) na)))
 fun (j : Nat) =>
 S.at'
 (Prod.snd
 (S.cutS np (fun (q : Nat) => tp (q + ap)) (fun (q : Nat) => vp (q + ap)) (fun (q : Nat) => gp (q + ap))
 (fun (q : Nat) => wp (q + ap)) na))
 j))
 then (bif (Prod.snd
 (S.comS np (fun (q : Nat) => tp (q + ap)) (fun (q : Nat) => vp (q + ap)) (fun (q : Nat) => gp (q + ap))
 (fun (q : Nat) => wp (q + ap)) na nb) ==
 Prod.snd
 (S.comS np (fun (q : Nat) => tp (q + ap)) (fun (q : Nat) => vp (q + ap)) (fun (q : Nat) => gp (q + ap))
 (fun (q : Nat) => wp (q + ap)) na nb))
 then (bif (Prod.fst
 (S.comS np (fun (q : Nat) => tp (q + ap)) (fun (q : Nat) => vp (q + ap)) (fun (q : Nat) => gp (q + ap))
 (fun (q : Nat) => wp (q + ap)) na nb) ==
 Prod.fst
 (S.comS np (fun (q : Nat) => tp (q + ap)) (fun (q : Nat) => vp (q + ap)) (fun (q : Nat) => gp (q + ap))
 (fun (q : Nat) => wp (q + ap)) na nb))
 then (some (.inr (true)))
 else (some (.inr (false))))
 else (some (.inr (false))))
 else (some (.inr (false))))
 else (none))
 else (some (.inr (false))))
 else (none))
 else (none))
 else (some (.inr (true))) : Option (St7 ⊕ Rt7)) = some x) : Te7 cond Kst Kret ap np mp tp vp gp wp na nb := by
  unfold Te7
  exact cond_yes rfl (cond_yes rfl (bif_split h
   (fun c0 h => bif_split h
   (fun c1 h => bif_split h
   (fun c2 h => cond_yes c1 (cond_yes c1 (cond_yes c2 (cond_yes c1 (bif_split h
   (fun c3 h => bif_split h
   (fun c4 h => bif_split h
   (fun c5 h => bif_split h
   (fun c6 h => bif_split h
   (fun c7 h => ret_at hR _ h (fun n => n) rfl rfl rfl (rn_bool_tf rfl) rfl (entl_bor (use_lo rfl) rfl rfl entl_nil))
   (fun c7 h => ret_at hR _ h (fun n => n) rfl rfl rfl (rn_bool_tf rfl) rfl (entl_bor (use_lo rfl) rfl rfl entl_nil)))
   (fun c6 h => ret_at hR _ h (fun n => n) rfl rfl rfl (rn_bool_tf rfl) rfl (entl_bor (use_lo rfl) rfl rfl entl_nil)))
   (fun c5 h => ret_at hR _ h (fun n => n) rfl rfl rfl (rn_bool_tf rfl) rfl (entl_bor (use_lo rfl) rfl rfl entl_nil)))
   (fun c4 h => no_some h))
   (fun c3 h => ret_at hR _ h (fun n => n) rfl rfl rfl (rn_bool_tf rfl) rfl (entl_bor (use_lo rfl) rfl rfl entl_nil)))))))
   (fun c2 h => no_some h))
   (fun c1 h => no_some h))
   (fun c0 h => cond_yes rfl (cond_yes rfl (ret_at hR _ h (fun n => n) rfl rfl rfl (rn_bool_tf rfl) rfl (entl_bor (use_lo rfl) rfl rfl entl_nil))))))
theorem a7 (ap np mp : Nat) (tp : Nat → Int) (vp : Nat → Int) (gp : Nat → Int) (wp : Nat → Int) (na : Int) (nb : Int) {r : Rt7} (h : Goes ((q7 ap np mp tp vp gp wp na nb)) ((p7 ap np mp tp vp gp wp na nb)) r) : CallR Try.prog 7 [.agg [.loose ⟨0, 4, ap, 0⟩ np], .int .i64 na, .int .i64 nb] [[(0, (false, .cols mp [.int .i64 tp, .int .i64 vp, .int .i64 gp, .int .i64 wp]))]] 1 ((V7 ap np mp tp vp gp wp na nb) r) ((fun r => [newL (1 + 1) ((N7 ap np mp tp vp gp wp na nb) r) ++ [(0, (false, .cols mp [.int .i64 tp, .int .i64 vp, .int .i64 gp, .int .i64 wp]))]]) r) 400 ∧ ∃ F, Try.prog.funcs[7]? = some F ∧ F.body.isSome = true ∧ (F.name == "runtime.NumGoroutine") = false := by
  refine dec_calls (f := 7) (lo := 1) (hi := 400) (H := [[(0, (false, .cols mp [.int .i64 tp, .int .i64 vp, .int .i64 gp, .int .i64 wp]))]]) (args := [.agg [.loose ⟨0, 4, ap, 0⟩ np], .int .i64 na, .int .i64 nb]) Try.envOk Try.mixed xJ_ok ((I7 ap np mp tp vp gp wp na nb)) ((V7 ap np mp tp vp gp wp na nb)) (fun r => [newL (1 + 1) ((N7 ap np mp tp vp gp wp na nb) r) ++ [(0, (false, .cols mp [.int .i64 tp, .int .i64 vp, .int .i64 gp, .int .i64 wp]))]]) (fn := mkFn Try.f7) (ts := []) (n := 400) rfl (by decide) (by simp) (names_of rfl) ?_ ?_ ?_ h
  · intro s; exact s.elim
  · intro Kst Kret x hS hR h
    exact Holds.eq (te7 cond Kst Kret ap np mp tp vp gp wp na nb) (be7 ap np mp tp vp gp wp na nb Kst Kret x hS hR h)
  · intro Kst Kret x hS hR s h; exact s.elim
noncomputable def k7 : Con := ⟨7, [.agg [.list [.int .i64, .int .i64, .int .i64, .int .i64]], .one (.plain (.int .i64)), .one (.plain (.int .i64))], fun (x : ((Nat × Nat × Nat × (Nat → Int) × (Nat → Int) × (Nat → Int) × (Nat → Int) × Unit) × Unit) × Int × Int × Unit) => (fun (ap np mp : Nat) (tp : Nat → Int) (vp : Nat → Int) (gp : Nat → Int) (wp : Nat → Int) (na : Int) (nb : Int) => decide (ap + np ≤ mp)) x.1.1.1 x.1.1.2.1 x.1.1.2.2.1 x.1.1.2.2.2.1 x.1.1.2.2.2.2.1 x.1.1.2.2.2.2.2.1 x.1.1.2.2.2.2.2.2.1 x.2.1 x.2.2.1, fun (x : ((Nat × Nat × Nat × (Nat → Int) × (Nat → Int) × (Nat → Int) × (Nat → Int) × Unit) × Unit) × Int × Int × Unit) => (fun (ap np mp : Nat) (tp : Nat → Int) (vp : Nat → Int) (gp : Nat → Int) (wp : Nat → Int) (na : Int) (nb : Int) => (V7 ap np mp tp vp gp wp na nb) (true)) x.1.1.1 x.1.1.2.1 x.1.1.2.2.1 x.1.1.2.2.2.1 x.1.1.2.2.2.2.1 x.1.1.2.2.2.2.2.1 x.1.1.2.2.2.2.2.2.1 x.2.1 x.2.2.1, fun (x : ((Nat × Nat × Nat × (Nat → Int) × (Nat → Int) × (Nat → Int) × (Nat → Int) × Unit) × Unit) × Int × Int × Unit) => (fun (ap np mp : Nat) (tp : Nat → Int) (vp : Nat → Int) (gp : Nat → Int) (wp : Nat → Int) (na : Int) (nb : Int) => (N7 ap np mp tp vp gp wp na nb) (true)) x.1.1.1 x.1.1.2.1 x.1.1.2.2.1 x.1.1.2.2.2.1 x.1.1.2.2.2.2.1 x.1.1.2.2.2.2.2.1 x.1.1.2.2.2.2.2.2.1 x.2.1 x.2.2.1, fun _ _ => .dead⟩
theorem s7 (ap np mp : Nat) (tp : Nat → Int) (vp : Nat → Int) (gp : Nat → Int) (wp : Nat → Int) (na : Int) (nb : Int) (hp : ap + np ≤ mp) : Goes ((q7 ap np mp tp vp gp wp na nb)) ((p7 ap np mp tp vp gp wp na nb)) (true) := by
  unfold p7
  by_cases hn : np ≤ 70
  · skip
    have l1 := cut_len (n := np) (p := (fun q => tp (q + ap))) (d := (fun q => vp (q + ap))) (u := (fun q => gp (q + ap))) (j := (fun q => wp (q + ap))) (x := na)
    generalize S.cutS np (fun q => tp (q + ap)) (fun q => vp (q + ap)) (fun q => gp (q + ap)) (fun q => wp (q + ap)) na = P1 at *
    generalize S.comS np (fun q => tp (q + ap)) (fun q => vp (q + ap)) (fun q => gp (q + ap)) (fun q => wp (q + ap)) na nb = P2 at *
    repeat' first
      | with_reducible exact goes_inr.mpr rfl
      | (refine goes_ok ?_ ?_; focus (first | with_reducible exact beq_self_eq_true _ | (simp only [Bool.and_eq_true, decide_eq_true_eq, and_self, eq_self]; done) | with_reducible exact decide_eq_true trivial | with_reducible exact decide_eq_true rfl | (simp only [eq_self, decide_true, Bool.and_self, Bool.and_true, Bool.true_and]; done) | (apply decide_eq_true; omega) | (rw [lim64]; apply decide_eq_true; omega) | (apply decide_eq_true; simp only [mkl_len, mkl_zero, List.length_nil, true_and, and_true, and_self, Nat.zero_add, Nat.add_zero, Nat.le_refl]; done) | (apply decide_eq_true; simp only [mkl_len, mkl_zero, List.length_nil, true_and, and_true, and_self, Nat.zero_add, Nat.add_zero, Nat.le_refl]; omega) | decide))
      | (refine goes_no ?_ ?_; focus (first | with_reducible exact bne_self_eq_false _ | (apply decide_eq_false; omega) | decide))
  · repeat' first
      | with_reducible exact goes_inr.mpr rfl
      | (refine goes_no ?_ ?_; focus (apply decide_eq_false; omega))
      | (refine goes_ok ?_ ?_; focus (apply decide_eq_true; omega))

theorem k7_ok : k7.ok Try.prog := by
  intro x hx
  obtain ⟨⟨⟨ap, np, mp, tp, vp, gp, wp, _⟩, _⟩, na, nb, _⟩ := x
  obtain ⟨h1, h2⟩ := a7 ap np mp tp vp gp wp na nb (s7 ap np mp tp vp gp wp na nb (of_dec hx rfl))
  exact ⟨⟨400, (by decide : 1 + 1 + 0 ≤ 400), h1⟩, h2⟩

end Go.Ev
