/-
  The law of Reduce.
-/
import Derived.Test.YtccojphjkaikeaaMD4a
import Derived.Test.YtccojphjkaikeaaMA1
import Derived.Test.YtccojphjkaikeaaMB6
import Derived.Test.YtccojphjkaikeaaMD2
import Derived.Test.YtccojphjkaikeaaMD3
import Derived.Test.YtccojphjkaikeaaML1
namespace Go.Ev
open Go.Proofs
set_option linter.unusedVariables false
set_option linter.unusedSimpArgs false
set_option maxRecDepth 100000
noncomputable def yD4 (test : Bool → Prop → Prop → Prop) : Ext := consX test [k12, k25, k27, k29, k28]
theorem yD4_ok : ExtOk Try.prog (yD4 cond) := consX_ok (l := [k12, k25, k27, k29, k28]) ⟨k12_ok, k25_ok, k27_ok, k29_ok, k28_ok, trivial⟩
abbrev St5 := Empty
abbrev Rt5 := Bool
noncomputable def V5 (al nl ml : Nat) (tl : Nat → Int) (r : Rt5) : PV := PV.bool r
noncomputable def N5 (al nl ml : Nat) (tl : Nat → Int) (r : Rt5) : List Blk := []
noncomputable def I5 (al nl ml : Nat) (tl : Nat → Int) : St5 → Hd := fun s => s.elim
noncomputable def q5 (al nl ml : Nat) (tl : Nat → Int) : St5 → Option (St5 ⊕ Rt5) := fun s => s.elim
noncomputable def p5 (al nl ml : Nat) (tl : Nat → Int) : Option (St5 ⊕ Rt5) := bif (decide ((↑nl : Int) > (200 : Int)))
 then (some (.inr (true)))
 else (bif (decide (al + nl ≤ ml ∧ nl ≤ 1000000))
 then (bif (decide (0 + nl ≤ nl ∧ nl ≤ 999999))
 then (bif (decide (al + nl ≤ ml ∧ nl ≤ 999999))
 then (bif (decide
 (0 + List.length (S.redP (fun (j : Nat) => tl (j + al)) nl nl) ≤
 List.length (S.redP (fun (j : Nat) => tl (j + al)) nl nl) ∧
 List.length (S.redP (fun (j : Nat) => tl (j + al)) nl nl) ≤ 1000000 ∧
 0 + List.length (S.redP (fun (j : Nat) => tl (j + al)) nl nl) ≤
 List.length (S.redP (fun (j : Nat) => tl (j + al)) nl nl) ∧
 List.length (S.redP (fun (j : Nat) => tl (j + al)) nl nl) ≤ 1000000))
 then (bif (decide
 ((S.mkl (List.length (S.redP (fun (j : Nat) => tl (j + al)) nl nl)) fun (j : Nat) =>
 S.at' (S.redP (fun (j : Nat) => tl (j + al)) nl nl) j) =
 S.mkl (List.length (S.redP (fun (j : Nat) => tl (j + al)) nl nl)) fun (j : Nat) =>
 S.at' (S.redP (fun (j : Nat) => tl (j + al)) nl nl) j))
 then (bif (decide
 (0 + List.length (S.redP (fun (j : Nat) => tl (j + al)) nl nl) ≤
 List.length (S.redP (fun (j : Nat) => tl (j + al)) nl nl) ∧
 List.length (S.redP (fun (j : Nat) => tl (j + al)) nl nl) ≤ 999999))
 then (bif (decide
 (0 +
 List.length
 (S.redP (fun (j : Nat) => S.at' (S.redP (fun (j : Nat) => tl (j + al)) nl nl) j)
 (List.length (S.redP (fun (j : Nat) => tl (j + al)) nl nl))
 (List.length (S.redP (fun (j : Nat) => tl (j + al)) nl nl))) ≤
 List.length
 (S.redP (fun (j : Nat) => S.at' (S.redP (fun (j : Nat) => tl (j + al)) nl nl) j)
 (List.length (S.redP (fun (j : Nat) => tl (j + al)) nl nl))
 (List.length (S.redP (fun (j : Nat) => tl (j + al)) nl nl))) ∧
 List.length
 (S.redP (fun (j : Nat) => S.at' (S.redP (fun (j : Nat) => tl (j + al)) nl nl) j)
 (List.length (S.redP (fun (j : Nat) => tl (j + al)) nl nl))
 (List.length (S.redP (fun (j : Nat) => tl (j + al)) nl nl))) ≤
 1000000 ∧
 0 + List.length (S.redP (fun (j : Nat) => tl (j + al)) nl nl) ≤
 List.length (S.redP (fun (j : Nat) => tl (j + al)) nl nl) ∧
 List.length (S.redP (fun (j : Nat) => tl (j + al)) nl nl) ≤ 1000000))
 then (bif (decide
 ((S.mkl
 (List.length
 (S.redP (fun (j : Nat) => S.at' (S.redP (fun (j : Nat) => tl (j + al)) nl nl) j)
 (List.length (S.redP (fun (j : Nat) => tl (j + al)) nl nl))
 (List.length (S.redP (fun (j : Nat) => tl (j + al)) nl nl))))
 fun (j : Nat) =>
 S.at'
 (S.redP (fun (j : Nat) => S.at' (S.redP (fun (j : Nat) => tl (j + al)) nl nl) j)
 (List.length (S.redP (fun (j : Nat) => tl (j + al)) nl nl))
 (List.length (S.redP (fun (j : Nat) => tl (j + al)) nl nl)))
 j) =
 S.mkl (List.length (S.redP (fun (j : Nat) => tl (j + al)) nl nl)) fun (j : Nat) =>
 S.at' (S.redP (fun (j : Nat) => tl (j + al)) nl nl) j))
 then (some (.inr (true)))
 else (some (.inr (false))))
 else (none))
 else (none))
 else (some (.inr (false))))
 else (none))
 else (none))
 else (none))
 else (none))
noncomputable def Te5 (test : Bool → Prop → Prop → Prop) (Kst : KS) (Kret : KR) (al nl ml : Nat) (tl : Nat → Int) : Prop :=
  test (true)
 (test (true)
 (test (decide ((↑nl : Int) > (200 : Int)))
 (test (true)
 (test (true)
 (Kret (PV.tf true) ([[(0, false, Blk.cols ml [Col.int IntKind.i64 tl])]]) (3))
 (Kret (PV.tf false) ([[(0, false, Blk.cols ml [Col.int IntKind.i64 tl])]]) (3)))
 (False))
 (test (decide (al + nl ≤ ml ∧ nl ≤ 1000000))
 (test (decide (0 + nl ≤ nl ∧ nl ≤ 999999))
 (test (decide (al + nl ≤ ml ∧ nl ≤ 999999))
 (test (decide
 (0 + List.length (S.redP (fun (j : Nat) => tl (j + al)) nl nl) ≤
 List.length (S.redP (fun (j : Nat) => tl (j + al)) nl nl) ∧
 List.length (S.redP (fun (j : Nat) => tl (j + al)) nl nl) ≤ 1000000 ∧
 0 + List.length (S.redP (fun (j : Nat) => tl (j + al)) nl nl) ≤
 List.length (S.redP (fun (j : Nat) => tl (j + al)) nl nl) ∧
 List.length (S.redP (fun (j : Nat) => tl (j + al)) nl nl) ≤ 1000000))
 (test (decide
 ((S.mkl (List.length (S.redP (fun (j : Nat) => tl (j + al)) nl nl)) fun (j : Nat) =>
 S.at' (S.redP (fun (j : Nat) => tl (j + al)) nl nl) j) =
 S.mkl (List.length (S.redP (fun (j : Nat) => tl (j + al)) nl nl)) fun (j : Nat) =>
 S.at' (S.redP (fun (j : Nat) => tl (j + al)) nl nl) j))
 (test (decide
 (0 + List.length (S.redP (fun (j : Nat) => tl (j + al)) nl nl) ≤
 List.length (S.redP (fun (j : Nat) => tl (j + al)) nl nl) ∧
 List.length (S.redP (fun (j : Nat) => tl (j + al)) nl nl) ≤ 999999))
 (test (decide
 (0 +
 List.length
 (S.redP (fun (j : Nat) => S.at' (S.redP (fun (j : Nat) => tl (j + al)) nl nl) j)
 (List.length (S.redP (fun (j : Nat) => tl (j + al)) nl nl))
 (List.length (S.redP (fun (j : Nat) => tl (j + al)) nl nl))) ≤
 List.length
 (S.redP (fun (j : Nat) => S.at' (S.redP (fun (j : Nat) => tl (j + al)) nl nl) j)
 (List.length (S.redP (fun (j : Nat) => tl (j + al)) nl nl))
 (List.length (S.redP (fun (j : Nat) => tl (j + al)) nl nl))) ∧
 List.length
 (S.redP (fun (j : Nat) => S.at' (S.redP (fun (j : Nat) => tl (j + al)) nl nl) j)
 (List.length (S.redP (fun (j : Nat) => tl (j + al)) nl nl))
 (List.length (S.redP (fun (j : Nat) => tl (j + al)) nl nl))) ≤
 1000000 ∧
 0 + List.length (S.redP (fun (j : Nat) => tl (j + al)) nl nl) ≤
 List.length (S.redP (fun (j : Nat) => tl (j + al)) nl nl) ∧
 List.length (S.redP (fun (j : Nat) => tl (j + al)) nl nl) ≤ 1000000))
 (test (decide
 ((S.mkl
 (List.length
 (S.redP (fun (j : Nat) => S.at' (S.redP (fun (j : Nat) => tl (j + al)) nl nl) j)
 (List.length (S.redP (fun (j : Nat) => tl (j + al)) nl nl))
 (List.length (S.redP (fun (j : Nat) => tl (j + al)) nl nl))))
 fun (j : Nat) =>
 S.at'
 (S.redP (fun (j : Nat) => S.at' (S.redP (fun (j : Nat) => tl (j + al)) nl nl) j)
 (List.length (S.redP (fun (j : Nat) => tl (j + al)) nl nl))
 (List.length (S.redP (fun (j : Nat) => tl (j + al)) nl nl)))
 j) =
 S.mkl (List.length (S.redP (fun (j : Nat) => tl (j + al)) nl nl)) fun (j : Nat) =>
 S.at' (S.redP (fun (j : Nat) => tl (j + al)) nl nl) j))
 (Kret (PV.tf true) ([[(0, false, Blk.cols ml [Col.int IntKind.i64 tl])]]) (12))
 (Kret (PV.tf false) ([[(0, false, Blk.cols ml [Col.int IntKind.i64 tl])]]) (12)))
 (False))
 (False))
 (Kret (PV.tf false) ([[(0, false, Blk.cols ml [Col.int IntKind.i64 tl])]]) (9)))
 (False))
 (False))
 (False))
 (False)))
 (test (true)
 (test (true)
 (Kret (PV.tf true) ([[(0, false, Blk.cols ml [Col.int IntKind.i64 tl])]]) (3))
 (Kret (PV.tf false) ([[(0, false, Blk.cols ml [Col.int IntKind.i64 tl])]]) (3)))
 (False)))
 (False)
set_option maxRecDepth 100000 in
theorem te5 (test : Bool → Prop → Prop → Prop) (Kst : KS) (Kret : KR) (al nl ml : Nat) (tl : Nat → Int) : run test Try.env true (yD4 test) true 400 ⟨5, [.cd (mkFn Try.f5).body], argT 0 [.loose ⟨0, 1, al, 0⟩ nl], [[], [(0, (false, .cols ml [.int .i64 tl]))]], 1⟩ (proj 1 [] Kst Kret) =
  Te5 test Kst Kret al nl ml tl := by kernel_rfl
set_option maxRecDepth 100000 in
theorem be5 (al nl ml : Nat) (tl : Nat → Int) (Kst : KS) (Kret : KR) (x : St5 ⊕ Rt5) (hS : HS 1 400 ((I5 al nl ml tl)) Kst x) (hR : HR 1 400 ((V5 al nl ml tl)) (fun r => [newL (1 + 1) ((N5 al nl ml tl) r) ++ [(0, (false, .cols ml [.int .i64 tl]))]]) Kret x) (h : (bif (decide ((↑nl : Int) > (200 : Int)))
 then (some (.inr (true)))
 else (bif (decide (al + nl ≤ ml ∧ nl ≤ 1000000))
 then (bif (decide (0 + nl ≤ nl ∧ nl ≤ 999999))
 then (bif (decide (al + nl ≤ ml ∧ nl ≤ 999999))
 then (bif (decide
 (0 + List.length (S.redP (fun (j : Nat) => tl (j + al)) nl nl) ≤
 List.length (S.redP (fun (j : Nat) => tl (j + al)) nl nl) ∧
 List.length (S.redP (fun (j : Nat) => tl (j + al)) nl nl) ≤ 1000000 ∧
 0 + List.length (S.redP (fun (j : Nat) => tl (j + al)) nl nl) ≤
 List.length (S.redP (fun (j : Nat) => tl (j + al)) nl nl) ∧
 List.length (S.redP (fun (j : Nat) => tl (j + al)) nl nl) ≤ 1000000))
 then (bif (decide
 ((S.mkl (List.length (S.redP (fun (j : Nat) => tl (j + al)) nl nl)) fun (j : Nat) =>
 S.at' (S.redP (fun (j : Nat) => tl (j + al)) nl nl) j) =
 S.mkl (List.length (S.redP (fun (j : Nat) => tl (j + al)) nl nl)) fun (j : Nat) =>
 S.at' (S.redP (fun (j : Nat) => tl (j + al)) nl nl) j))
 then (bif (decide
 (0 + List.length (S.redP (fun (j : Nat) => tl (j + al)) nl nl) ≤
 List.length (S.redP (fun (j : Nat) => tl (j + al)) nl nl) ∧
 List.length (S.redP (fun (j : Nat) => tl (j + al)) nl nl) ≤ 999999))
 then (bif (decide
 (0 +
 List.length
 (S.redP (fun (j : Nat) => S.at' (S.redP (fun (j : Nat) => tl (j + al)) nl nl) j)
 (List.length (S.redP (fun (j : Nat) => tl (j + al)) nl nl))
 (List.length (S.redP (fun (j : Nat) => tl (j + al)) nl nl))) ≤
 List.length
 (S.redP (fun (j : Nat) => S.at' (S.redP (fun (j : Nat) => tl (j + al)) nl nl) j)
 (List.length (S.redP (fun (j : Nat) => tl (j + al)) nl nl))
 (List.length (S.redP (fun (j : Nat) => tl (j + al)) nl nl))) ∧
 List.length
 (S.redP (fun (j : Nat) => S.at' (S.redP (fun (j : Nat) => tl (j + al)) nl nl) j)
 (List.length (S.redP (fun (j : Nat) => tl (j + al)) nl nl))
 (List.length (S.redP (fun (j : Nat) => tl (j + al)) nl nl))) ≤
 1000000 ∧
 0 + List.length (S.redP (fun (j : Nat) => tl (j + al)) nl nl) ≤
 List.length (S.redP (fun (j : Nat) => tl (j + al)) nl nl) ∧
 List.length (S.redP (fun (j : Nat) => tl (j + al)) nl nl) ≤ 1000000))
 then (bif (decide
 ((S.mkl
 (List.length
 (S.redP (fun (j : Nat) => S.at' (S.redP (fun (j : Nat) => tl (j + al)) nl nl) j)
 (List.length (S.redP (fun (j : Nat) => tl (j + al)) nl nl))
 (List.length (S.redP (fun (j : Nat) => tl (j + al)) nl nl))))
 fun (j : Nat) =>
 S.at'
 (S.redP (fun (j : Nat) => S.at' (S.redP (fun (j : Nat) => tl (j + al)) nl nl) j)
 (List.length (S.redP (fun (j : Nat) => tl (j + al)) nl nl))
 (List.length (S.redP (fun (j : Nat) => tl (j + al)) nl nl)))
 j) =
 S.mkl (List.length (S.redP (fun (j : Nat) => tl (j + al)) nl nl)) fun (j : Nat) =>
 S.at' (S.redP (fun (j : Nat) => tl (j + al)) nl nl) j))
 then (some (.inr (true)))
 else (some (.inr (false))))
 else (none))
 else (none))
 else (some (.inr (false))))
 else (none))
 else (none))
 else (none))
 else (none)) : Option (St5 ⊕ Rt5)) = some x) : Te5 cond Kst Kret al nl ml tl := by
  unfold Te5
  exact cond_yes rfl (cond_yes rfl (bif_split h
   (fun c0 h => cond_yes rfl (cond_yes rfl (ret_at hR _ h (fun n => n) rfl rfl rfl (rn_bool_tf rfl) rfl (entl_bor (use_lo rfl) rfl rfl entl_nil))))
   (fun c0 h => bif_split h
   (fun c1 h => bif_split h
   (fun c2 h => bif_split h
   (fun c3 h => bif_split h
   (fun c4 h => bif_split h
   (fun c5 h => bif_split h
   (fun c6 h => bif_split h
   (fun c7 h => bif_split h
   (fun c8 h => ret_at hR _ h (fun n => n) rfl rfl rfl (rn_bool_tf rfl) rfl (entl_bor (use_lo rfl) rfl rfl entl_nil))
   (fun c8 h => ret_at hR _ h (fun n => n) rfl rfl rfl (rn_bool_tf rfl) rfl (entl_bor (use_lo rfl) rfl rfl entl_nil)))
   (fun c7 h => no_some h))
   (fun c6 h => no_some h))
   (fun c5 h => ret_at hR _ h (fun n => n) rfl rfl rfl (rn_bool_tf rfl) rfl (entl_bor (use_lo rfl) rfl rfl entl_nil)))
   (fun c4 h => no_some h))
   (fun c3 h => no_some h))
   (fun c2 h => no_some h))
   (fun c1 h => no_some h))))
theorem a5 (al nl ml : Nat) (tl : Nat → Int) {r : Rt5} (h : Goes ((q5 al nl ml tl)) ((p5 al nl ml tl)) r) : CallR Try.prog 5 [.loose ⟨0, 1, al, 0⟩ nl] [[(0, (false, .cols ml [.int .i64 tl]))]] 1 ((V5 al nl ml tl) r) ((fun r => [newL (1 + 1) ((N5 al nl ml tl) r) ++ [(0, (false, .cols ml [.int .i64 tl]))]]) r) 400 ∧ ∃ F, Try.prog.funcs[5]? = some F ∧ F.body.isSome = true ∧ (F.name == "runtime.NumGoroutine") = false := by
  refine dec_calls (f := 5) (lo := 1) (hi := 400) (H := [[(0, (false, .cols ml [.int .i64 tl]))]]) (args := [.loose ⟨0, 1, al, 0⟩ nl]) Try.envOk Try.mixed yD4_ok ((I5 al nl ml tl)) ((V5 al nl ml tl)) (fun r => [newL (1 + 1) ((N5 al nl ml tl) r) ++ [(0, (false, .cols ml [.int .i64 tl]))]]) (fn := mkFn Try.f5) (ts := []) (n := 400) rfl (by decide) (by simp) (names_of rfl) ?_ ?_ ?_ h
  · intro s; exact s.elim
  · intro Kst Kret x hS hR h
    exact Holds.eq (te5 cond Kst Kret al nl ml tl) (be5 al nl ml tl Kst Kret x hS hR h)
  · intro Kst Kret x hS hR s h; exact s.elim
noncomputable def k5 : Con := ⟨5, [.one (.list [.int .i64])], fun (x : (Nat × Nat × Nat × (Nat → Int) × Unit) × Unit) => (fun (al nl ml : Nat) (tl : Nat → Int) => decide (al + nl ≤ ml)) x.1.1 x.1.2.1 x.1.2.2.1 x.1.2.2.2.1, fun (x : (Nat × Nat × Nat × (Nat → Int) × Unit) × Unit) => (fun (al nl ml : Nat) (tl : Nat → Int) => (V5 al nl ml tl) (true)) x.1.1 x.1.2.1 x.1.2.2.1 x.1.2.2.2.1, fun (x : (Nat × Nat × Nat × (Nat → Int) × Unit) × Unit) => (fun (al nl ml : Nat) (tl : Nat → Int) => (N5 al nl ml tl) (true)) x.1.1 x.1.2.1 x.1.2.2.1 x.1.2.2.2.1, fun _ _ => .dead⟩
theorem s5 (al nl ml : Nat) (tl : Nat → Int) (hp : al + nl ≤ ml) : Goes ((q5 al nl ml tl)) ((p5 al nl ml tl)) (true) := by
  unfold p5
  have hl : (S.redP (fun j => tl (j + al)) nl nl).length ≤ nl := redP_len
  have hi : S.redP (fun j => S.at' (S.redP (fun j => tl (j + al)) nl nl) j) (S.redP (fun j => tl (j + al)) nl nl).length (S.redP (fun j => tl (j + al)) nl nl).length = S.redP (fun j => tl (j + al)) nl nl := red_idem
  rw [hi]
  generalize S.redP (fun j => tl (j + al)) nl nl = P at *
  by_cases h1 : (nl : Int) > 200
  · exact goes_ok (decide_eq_true h1) rfl
  refine goes_no (decide_eq_false h1) ?_
  repeat' first
    | with_reducible exact goes_inr.mpr rfl
    | (refine goes_ok ?_ ?_; first | with_reducible exact beq_self_eq_true _ | with_reducible exact decide_eq_true trivial | with_reducible exact decide_eq_true rfl | (simp only [eq_self, decide_true, Bool.and_self, Bool.and_true, Bool.true_and]; done) | (apply decide_eq_true; omega) | (rw [lim64]; apply decide_eq_true; omega) | (apply decide_eq_true; simp only [mkl_len, mkl_zero, List.length_nil, true_and, and_true, and_self, Nat.zero_add, Nat.add_zero, Nat.le_refl]; done) | (apply decide_eq_true; simp only [mkl_len, mkl_zero, List.length_nil, true_and, and_true, and_self, Nat.zero_add, Nat.add_zero, Nat.le_refl]; omega) | (simp only [Bool.and_eq_true, decide_eq_true_eq, and_self, eq_self]; done) | decide)
    | (refine goes_no ?_ ?_; first | with_reducible exact bne_self_eq_false _ | (apply decide_eq_false; omega) | decide)

theorem k5_ok : k5.ok Try.prog := by
  intro x hx
  obtain ⟨⟨al, nl, ml, tl, _⟩, _⟩ := x
  obtain ⟨h1, h2⟩ := a5 al nl ml tl (s5 al nl ml tl (of_decide_eq_true hx))
  exact ⟨⟨400, (by decide : 1 + 1 + 0 ≤ 400), h1⟩, h2⟩


end Go.Ev
