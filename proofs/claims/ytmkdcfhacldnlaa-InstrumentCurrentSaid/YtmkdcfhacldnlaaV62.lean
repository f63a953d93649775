/-
  The parts that the statement needs, 2 of 2.
-/
import Derived.Test.YtmkdcfhacldnlaaV61
namespace Go.Ev
open Go.Proofs
set_option linter.unusedVariables false
set_option linter.unusedSimpArgs false
set_option maxRecDepth 100000
theorem s17 (kd pc pn of rs rg re : Int) (al nl ml : Nat) (tl vl gl wl xl yl zl : Nat → Int) (hp : al + nl ≤ ml ∧ nl ≤ 1000000) : Goes ((q17 kd pc pn of rs rg re al nl ml tl vl gl wl xl yl zl)) ((p17 kd pc pn of rs rg re al nl ml tl vl gl wl xl yl zl)) (S.posS kd pc pn of rs rg re nl (fun j => tl (j + al)) (fun j => vl (j + al)) (fun j => gl (j + al)) (fun j => wl (j + al)) (fun j => xl (j + al)) (fun j => yl (j + al)) (fun j => zl (j + al))) := by
  unfold S.posS
  by_cases hi : S.kinE kd pc pn of rs rg re 1 = 0
  · rw [if_pos hi]
    have hi' := ins_ok hi
    by_cases hn : S.parE nl (fun j => tl (j + al)) (fun j => vl (j + al)) (fun j => gl (j + al)) (fun j => wl (j + al)) (fun j => xl (j + al)) (fun j => yl (j + al)) (fun j => zl (j + al)) = 0
    · rw [if_pos hn]
      have hm := s17' kd pc pn of rs rg re al nl ml tl vl gl wl xl yl zl hp hn hi nl 0 (by omega)
      show Goes _ _ _
      unfold p17
      repeat' first
        | with_reducible refine goes_if (fun h => ?_) (fun h => ?_) <;> (try simp only [SH] at h)
        | exact goes_none.mpr (by omega)
      all_goals first | (exfalso; omega) | exact hm
    · rw [if_neg hn]
      show Goes _ _ _
      unfold p17
      repeat' first
        | with_reducible refine goes_if (fun h => ?_) (fun h => ?_) <;> (try simp only [SH] at h)
        | exact goes_none.mpr (by omega)
      all_goals first | (exfalso; omega) | exact goes_inr.mpr rfl
  · rw [if_neg hi]
    unfold S.kinE at *
    show Goes _ _ _
    unfold p17
    repeat' first
      | with_reducible refine goes_if (fun h => ?_) (fun h => ?_) <;> (try simp only [SH] at h)
      | exact goes_none.mpr (by omega)
    all_goals first
      | (exfalso; omega)
      | (rw [if_neg (by omega)]; exact goes_inr.mpr rfl)
      | (rw [if_pos (by omega), if_neg (by omega)]; exact goes_inr.mpr rfl)
      | (exfalso; apply hi; rw [if_pos (by omega), if_pos (by omega)])
theorem k17_ok  : k17.ok Try.prog := by
  intro x hx
  obtain ⟨⟨kd, pc, pn, of, rs, rg, re, _⟩, ⟨al, nl, ml, tl, vl, gl, wl, xl, yl, zl, _⟩, _⟩ := x
  obtain ⟨h1, h2⟩ := a17 kd pc pn of rs rg re al nl ml tl vl gl wl xl yl zl (s17 kd pc pn of rs rg re al nl ml tl vl gl wl xl yl zl (of_dec hx rfl))
  exact ⟨⟨400, (by decide : 1 + 1 + 0 ≤ 400), h1⟩, h2⟩
noncomputable def k11  : Con := ⟨11, [], fun _ => true, fun _ => .bool true, fun _ => [], fun _ _ => .dead⟩
theorem te11 (Kst : KS) (Kret : KR) : run cond Try.env true noX false 4000 ⟨11, [.cd (mkFn Try.f11).body], [], [[], []], 0⟩ (proj 0 [] Kst Kret) = Kret (.tf true) [[]] 567 := by kernel_rfl
theorem k11_ok  : k11.ok Try.prog := awake_ok (fn := mkFn Try.f11) (hi := 568) (n := 4000) Try.envOk Try.mixed noX_ok rfl (by decide) (by decide : Nat.ble 567 568 = true) te11
noncomputable def xE (test : Bool → Prop → Prop → Prop) : Ext := consX test [k11, k15, k16, k17, k25, k26, k13, k18]
theorem xE_ok  : ExtOk Try.prog (xE cond) := consX_ok ⟨k11_ok, k15_ok, k16_ok, k17_ok, k25_ok, k26_ok, k13_ok, k18_ok, trivial⟩
abbrev St6  := Empty
abbrev Rt6  := Bool
noncomputable def V6 (kd pc pn of rs rg re : Int) (al nl ml : Nat) (tl vl gl wl xl yl zl : Nat → Int) (r : Rt6) : PV := PV.bool r
noncomputable def N6 (kd pc pn of rs rg re : Int) (al nl ml : Nat) (tl vl gl wl xl yl zl : Nat → Int) (r : Rt6) : List Blk := []
noncomputable def I6 (kd pc pn of rs rg re : Int) (al nl ml : Nat) (tl vl gl wl xl yl zl : Nat → Int) : St6 → Hd := fun s => s.elim
noncomputable def q6 (kd pc pn of rs rg re : Int) (al nl ml : Nat) (tl vl gl wl xl yl zl : Nat → Int) : St6 → Option (St6 ⊕ Rt6) := fun s => s.elim
noncomputable def p6 (kd pc pn of rs rg re : Int) (al nl ml : Nat) (tl vl gl wl xl yl zl : Nat → Int) : Option (St6 ⊕ Rt6) := bif (decide ((↑nl : Int) > (60 : Int)))
 then (some (.inr (true)))
 else (bif (decide (al + nl ≤ ml ∧ nl ≤ 1000000))
 then (bif (decide (0 + nl ≤ nl ∧ nl ≤ 1000000))
 then (bif (Prod.fst
 (S.curS kd pc pn of rs rg re nl (fun j => tl (j + al)) (fun j => vl (j + al))
 (fun j => gl (j + al)) (fun j => wl (j + al)) (fun j => xl (j + al))
 (fun j => yl (j + al)) fun j => zl (j + al)) ==
 Prod.fst
 (S.curS kd pc pn of rs rg re nl (fun j => tl (j + al)) (fun j => vl (j + al))
 (fun j => gl (j + al)) (fun j => wl (j + al)) (fun j => xl (j + al))
 (fun j => yl (j + al)) fun j => zl (j + al)) &&
 (Prod.fst
 (Prod.snd
 (S.curS kd pc pn of rs rg re nl (fun j => tl (j + al)) (fun j => vl (j + al))
 (fun j => gl (j + al)) (fun j => wl (j + al)) (fun j => xl (j + al))
 (fun j => yl (j + al)) fun j => zl (j + al))) ==
 Prod.fst
 (Prod.snd
 (S.curS kd pc pn of rs rg re nl (fun j => tl (j + al)) (fun j => vl (j + al))
 (fun j => gl (j + al)) (fun j => wl (j + al)) (fun j => xl (j + al))
 (fun j => yl (j + al)) fun j => zl (j + al))) &&
 (Prod.fst
 (Prod.snd
 (Prod.snd
 (S.curS kd pc pn of rs rg re nl (fun j => tl (j + al)) (fun j => vl (j + al))
 (fun j => gl (j + al)) (fun j => wl (j + al)) (fun j => xl (j + al))
 (fun j => yl (j + al)) fun j => zl (j + al)))) ==
 Prod.fst
 (Prod.snd
 (Prod.snd
 (S.curS kd pc pn of rs rg re nl (fun j => tl (j + al)) (fun j => vl (j + al))
 (fun j => gl (j + al)) (fun j => wl (j + al)) (fun j => xl (j + al))
 (fun j => yl (j + al)) fun j => zl (j + al)))) &&
 true)))
 then (bif (Prod.snd
 (Prod.snd
 (Prod.snd
 (S.curS kd pc pn of rs rg re nl (fun j => tl (j + al)) (fun j => vl (j + al))
 (fun j => gl (j + al)) (fun j => wl (j + al)) (fun j => xl (j + al))
 (fun j => yl (j + al)) fun j => zl (j + al)))) ==
 Prod.snd
 (Prod.snd
 (Prod.snd
 (S.curS kd pc pn of rs rg re nl (fun j => tl (j + al)) (fun j => vl (j + al))
 (fun j => gl (j + al)) (fun j => wl (j + al)) (fun j => xl (j + al))
 (fun j => yl (j + al)) fun j => zl (j + al)))))
 then (some (.inr (true)))
 else (some (.inr (false))))
 else (some (.inr (false))))
 else (none))
 else (none))
noncomputable def Te6 (test : Bool → Prop → Prop → Prop) (Kst : KS) (Kret : KR) (kd pc pn of rs rg re : Int) (al nl ml : Nat) (tl vl gl wl xl yl zl : Nat → Int) : Prop :=
  test (true)
 (test (true)
 (test (decide ((↑nl : Int) > (60 : Int)))
 (test (true)
 (test (true)
 (Kret (PV.tf true) ([[(0, false,
 Blk.cols ml
 [Col.int IntKind.i64 tl, Col.int IntKind.i64 vl, Col.int IntKind.i64 gl,
 Col.int IntKind.i64 wl, Col.int IntKind.i64 xl, Col.int IntKind.i64 yl,
 Col.int IntKind.i64 zl])]]) (4))
 (Kret (PV.tf false) ([[(0, false,
 Blk.cols ml
 [Col.int IntKind.i64 tl, Col.int IntKind.i64 vl, Col.int IntKind.i64 gl,
 Col.int IntKind.i64 wl, Col.int IntKind.i64 xl, Col.int IntKind.i64 yl,
 Col.int IntKind.i64 zl])]]) (4)))
 (False))
 (test (decide (al + nl ≤ ml ∧ nl ≤ 1000000))
 (test (decide (0 + nl ≤ nl ∧ nl ≤ 1000000))
 (test (decide (al + nl ≤ ml ∧ nl ≤ 1000000))
 (test (Prod.fst
 (S.curS kd pc pn of rs rg re nl (fun j => tl (j + al)) (fun j => vl (j + al))
 (fun j => gl (j + al)) (fun j => wl (j + al)) (fun j => xl (j + al))
 (fun j => yl (j + al)) fun j => zl (j + al)) ==
 Prod.fst
 (S.curS kd pc pn of rs rg re nl (fun j => tl (j + al)) (fun j => vl (j + al))
 (fun j => gl (j + al)) (fun j => wl (j + al)) (fun j => xl (j + al))
 (fun j => yl (j + al)) fun j => zl (j + al)) &&
 (Prod.fst
 (Prod.snd
 (S.curS kd pc pn of rs rg re nl (fun j => tl (j + al)) (fun j => vl (j + al))
 (fun j => gl (j + al)) (fun j => wl (j + al)) (fun j => xl (j + al))
 (fun j => yl (j + al)) fun j => zl (j + al))) ==
 Prod.fst
 (Prod.snd
 (S.curS kd pc pn of rs rg re nl (fun j => tl (j + al)) (fun j => vl (j + al))
 (fun j => gl (j + al)) (fun j => wl (j + al)) (fun j => xl (j + al))
 (fun j => yl (j + al)) fun j => zl (j + al))) &&
 (Prod.fst
 (Prod.snd
 (Prod.snd
 (S.curS kd pc pn of rs rg re nl (fun j => tl (j + al)) (fun j => vl (j + al))
 (fun j => gl (j + al)) (fun j => wl (j + al)) (fun j => xl (j + al))
 (fun j => yl (j + al)) fun j => zl (j + al)))) ==
 Prod.fst
 (Prod.snd
 (Prod.snd
 (S.curS kd pc pn of rs rg re nl (fun j => tl (j + al)) (fun j => vl (j + al))
 (fun j => gl (j + al)) (fun j => wl (j + al)) (fun j => xl (j + al))
 (fun j => yl (j + al)) fun j => zl (j + al)))) &&
 true)))
 (test (Prod.snd
 (Prod.snd
 (Prod.snd
 (S.curS kd pc pn of rs rg re nl (fun j => tl (j + al)) (fun j => vl (j + al))
 (fun j => gl (j + al)) (fun j => wl (j + al)) (fun j => xl (j + al))
 (fun j => yl (j + al)) fun j => zl (j + al)))) ==
 Prod.snd
 (Prod.snd
 (Prod.snd
 (S.curS kd pc pn of rs rg re nl (fun j => tl (j + al)) (fun j => vl (j + al))
 (fun j => gl (j + al)) (fun j => wl (j + al)) (fun j => xl (j + al))
 (fun j => yl (j + al)) fun j => zl (j + al)))))
 (Kret (PV.tf true) ([[(0, false,
 Blk.cols ml
 [Col.int IntKind.i64 tl, Col.int IntKind.i64 vl, Col.int IntKind.i64 gl,
 Col.int IntKind.i64 wl, Col.int IntKind.i64 xl, Col.int IntKind.i64 yl,
 Col.int IntKind.i64 zl])]]) (9))
 (Kret (PV.tf false) ([[(0, false,
 Blk.cols ml
 [Col.int IntKind.i64 tl, Col.int IntKind.i64 vl, Col.int IntKind.i64 gl,
 Col.int IntKind.i64 wl, Col.int IntKind.i64 xl, Col.int IntKind.i64 yl,
 Col.int IntKind.i64 zl])]]) (9)))
 (Kret (PV.tf false) ([[(0, false,
 Blk.cols ml
 [Col.int IntKind.i64 tl, Col.int IntKind.i64 vl, Col.int IntKind.i64 gl,
 Col.int IntKind.i64 wl, Col.int IntKind.i64 xl, Col.int IntKind.i64 yl,
 Col.int IntKind.i64 zl])]]) (9)))
 (False))
 (False))
 (False)))
 (test (true)
 (test (true)
 (Kret (PV.tf true) ([[(0, false,
 Blk.cols ml
 [Col.int IntKind.i64 tl, Col.int IntKind.i64 vl, Col.int IntKind.i64 gl,
 Col.int IntKind.i64 wl, Col.int IntKind.i64 xl, Col.int IntKind.i64 yl,
 Col.int IntKind.i64 zl])]]) (4))
 (Kret (PV.tf false) ([[(0, false,
 Blk.cols ml
 [Col.int IntKind.i64 tl, Col.int IntKind.i64 vl, Col.int IntKind.i64 gl,
 Col.int IntKind.i64 wl, Col.int IntKind.i64 xl, Col.int IntKind.i64 yl,
 Col.int IntKind.i64 zl])]]) (4)))
 (False)))
 (False)
theorem te6 (test : Bool → Prop → Prop → Prop) (Kst : KS) (Kret : KR) (kd pc pn of rs rg re : Int) (al nl ml : Nat) (tl vl gl wl xl yl zl : Nat → Int) : run test Try.env true (xE test) true 400 ⟨6, [.cd (mkFn Try.f6).body], argT 0 [.agg [.int .i64 kd, .int .i64 pc, .int .i64 pn, .int .i64 of, .int .i64 rs, .int .i64 rg, .int .i64 re], .loose ⟨0, 7, al, 0⟩ nl], [[], [(0, (false, .cols ml [.int .i64 tl, .int .i64 vl, .int .i64 gl, .int .i64 wl, .int .i64 xl, .int .i64 yl, .int .i64 zl]))]], 1⟩ (proj 1 [] Kst Kret) =
  Te6 test Kst Kret kd pc pn of rs rg re al nl ml tl vl gl wl xl yl zl := by kernel_rfl
theorem be6 (kd pc pn of rs rg re : Int) (al nl ml : Nat) (tl vl gl wl xl yl zl : Nat → Int) (Kst : KS) (Kret : KR) (x : St6 ⊕ Rt6) (hS : HS 1 400 ((I6 kd pc pn of rs rg re al nl ml tl vl gl wl xl yl zl)) Kst x) (hR : HR 1 400 ((V6 kd pc pn of rs rg re al nl ml tl vl gl wl xl yl zl)) (fun r => [newL (1 + 1) ((N6 kd pc pn of rs rg re al nl ml tl vl gl wl xl yl zl) r) ++ [(0, (false, .cols ml [.int .i64 tl, .int .i64 vl, .int .i64 gl, .int .i64 wl, .int .i64 xl, .int .i64 yl, .int .i64 zl]))]]) Kret x) (h : (bif (decide ((↑nl : Int) > (60 : Int)))
 then (some (.inr (true)))
 else (bif (decide (al + nl ≤ ml ∧ nl ≤ 1000000))
 then (bif (decide (0 + nl ≤ nl ∧ nl ≤ 1000000))
 then (bif (Prod.fst
 (S.curS kd pc pn of rs rg re nl (fun j => tl (j + al)) (fun j => vl (j + al))
 (fun j => gl (j + al)) (fun j => wl (j + al)) (fun j => xl (j + al))
 (fun j => yl (j + al)) fun j => zl (j + al)) ==
 Prod.fst
 (S.curS kd pc pn of rs rg re nl (fun j => tl (j + al)) (fun j => vl (j + al))
 (fun j => gl (j + al)) (fun j => wl (j + al)) (fun j => xl (j + al))
 (fun j => yl (j + al)) fun j => zl (j + al)) &&
 (Prod.fst
 (Prod.snd
 (S.curS kd pc pn of rs rg re nl (fun j => tl (j + al)) (fun j => vl (j + al))
 (fun j => gl (j + al)) (fun j => wl (j + al)) (fun j => xl (j + al))
 (fun j => yl (j + al)) fun j => zl (j + al))) ==
 Prod.fst
 (Prod.snd
 (S.curS kd pc pn of rs rg re nl (fun j => tl (j + al)) (fun j => vl (j + al))
 (fun j => gl (j + al)) (fun j => wl (j + al)) (fun j => xl (j + al))
 (fun j => yl (j + al)) fun j => zl (j + al))) &&
 (Prod.fst
 (Prod.snd
 (Prod.snd
 (S.curS kd pc pn of rs rg re nl (fun j => tl (j + al)) (fun j => vl (j + al))
 (fun j => gl (j + al)) (fun j => wl (j + al)) (fun j => xl (j + al))
 (fun j => yl (j + al)) fun j => zl (j + al)))) ==
 Prod.fst
 (Prod.snd
 (Prod.snd
 (S.curS kd pc pn of rs rg re nl (fun j => tl (j + al)) (fun j => vl (j + al))
 (fun j => gl (j + al)) (fun j => wl (j + al)) (fun j => xl (j + al))
 (fun j => yl (j + al)) fun j => zl (j + al)))) &&
 true)))
 then (bif (Prod.snd
 (Prod.snd
 (Prod.snd
 (S.curS kd pc pn of rs rg re nl (fun j => tl (j + al)) (fun j => vl (j + al))
 (fun j => gl (j + al)) (fun j => wl (j + al)) (fun j => xl (j + al))
 (fun j => yl (j + al)) fun j => zl (j + al)))) ==
 Prod.snd
 (Prod.snd
 (Prod.snd
 (S.curS kd pc pn of rs rg re nl (fun j => tl (j + al)) (fun j => vl (j + al))
 (fun j => gl (j + al)) (fun j => wl (j + al)) (fun j => xl (j + al))
 (fun j => yl (j + al)) fun j => zl (j + al)))))
 then (some (.inr (true)))
 else (some (.inr (false))))
 else (some (.inr (false))))
 else (none))
 else (none)) : Option (St6 ⊕ Rt6)) = some x) : Te6 cond Kst Kret kd pc pn of rs rg re al nl ml tl vl gl wl xl yl zl := by
  unfold Te6
  exact cond_yes rfl (cond_yes rfl (bif_split h
   (fun c0 h => cond_yes rfl (cond_yes rfl (ret_at hR _ h (fun n => n) rfl rfl rfl (rn_bool_tf rfl) rfl (entl_bor (use_lo rfl) rfl rfl entl_nil))))
   (fun c0 h => bif_split h
   (fun c1 h => bif_split h
   (fun c2 h => cond_yes c1 (bif_split h
   (fun c3 h => bif_split h
   (fun c4 h => ret_at hR _ h (fun n => n) rfl rfl rfl (rn_bool_tf rfl) rfl (entl_bor (use_lo rfl) rfl rfl entl_nil))
   (fun c4 h => ret_at hR _ h (fun n => n) rfl rfl rfl (rn_bool_tf rfl) rfl (entl_bor (use_lo rfl) rfl rfl entl_nil)))
   (fun c3 h => ret_at hR _ h (fun n => n) rfl rfl rfl (rn_bool_tf rfl) rfl (entl_bor (use_lo rfl) rfl rfl entl_nil))))
   (fun c2 h => no_some h))
   (fun c1 h => no_some h))))
theorem a6 (kd pc pn of rs rg re : Int) (al nl ml : Nat) (tl vl gl wl xl yl zl : Nat → Int) {r : Rt6} (h : Goes ((q6 kd pc pn of rs rg re al nl ml tl vl gl wl xl yl zl)) ((p6 kd pc pn of rs rg re al nl ml tl vl gl wl xl yl zl)) r) : CallR Try.prog 6 [.agg [.int .i64 kd, .int .i64 pc, .int .i64 pn, .int .i64 of, .int .i64 rs, .int .i64 rg, .int .i64 re], .loose ⟨0, 7, al, 0⟩ nl] [[(0, (false, .cols ml [.int .i64 tl, .int .i64 vl, .int .i64 gl, .int .i64 wl, .int .i64 xl, .int .i64 yl, .int .i64 zl]))]] 1 ((V6 kd pc pn of rs rg re al nl ml tl vl gl wl xl yl zl) r) ((fun r => [newL (1 + 1) ((N6 kd pc pn of rs rg re al nl ml tl vl gl wl xl yl zl) r) ++ [(0, (false, .cols ml [.int .i64 tl, .int .i64 vl, .int .i64 gl, .int .i64 wl, .int .i64 xl, .int .i64 yl, .int .i64 zl]))]]) r) 400 ∧ ∃ F, Try.prog.funcs[6]? = some F ∧ F.body.isSome = true ∧ (F.name == "runtime.NumGoroutine") = false := by
  refine dec_calls (f := 6) (lo := 1) (hi := 400) (H := [[(0, (false, .cols ml [.int .i64 tl, .int .i64 vl, .int .i64 gl, .int .i64 wl, .int .i64 xl, .int .i64 yl, .int .i64 zl]))]]) (args := [.agg [.int .i64 kd, .int .i64 pc, .int .i64 pn, .int .i64 of, .int .i64 rs, .int .i64 rg, .int .i64 re], .loose ⟨0, 7, al, 0⟩ nl]) Try.envOk Try.mixed xE_ok ((I6 kd pc pn of rs rg re al nl ml tl vl gl wl xl yl zl)) ((V6 kd pc pn of rs rg re al nl ml tl vl gl wl xl yl zl)) (fun r => [newL (1 + 1) ((N6 kd pc pn of rs rg re al nl ml tl vl gl wl xl yl zl) r) ++ [(0, (false, .cols ml [.int .i64 tl, .int .i64 vl, .int .i64 gl, .int .i64 wl, .int .i64 xl, .int .i64 yl, .int .i64 zl]))]]) (fn := mkFn Try.f6) (ts := []) (n := 400) rfl (by decide) (by simp) (names_of rfl) ?_ ?_ ?_ h
  · intro s; exact s.elim
  · intro Kst Kret x hS hR h
    exact Holds.eq (te6 cond Kst Kret kd pc pn of rs rg re al nl ml tl vl gl wl xl yl zl) (be6 kd pc pn of rs rg re al nl ml tl vl gl wl xl yl zl Kst Kret x hS hR h)
  · intro Kst Kret x hS hR s h; exact s.elim
noncomputable def k6  : Con := ⟨6, [.agg [.plain (.int .i64), .plain (.int .i64), .plain (.int .i64), .plain (.int .i64), .plain (.int .i64), .plain (.int .i64), .plain (.int .i64)], .one (.list [.int .i64, .int .i64, .int .i64, .int .i64, .int .i64, .int .i64, .int .i64])], fun (x : (Int × Int × Int × Int × Int × Int × Int × Unit) × (Nat × Nat × Nat × (Nat → Int) × (Nat → Int) × (Nat → Int) × (Nat → Int) × (Nat → Int) × (Nat → Int) × (Nat → Int) × Unit) × Unit) => (fun (kd : Int) (pc : Int) (pn : Int) (of : Int) (rs : Int) (rg : Int) (re : Int) (al nl ml : Nat) (tl : Nat → Int) (vl : Nat → Int) (gl : Nat → Int) (wl : Nat → Int) (xl : Nat → Int) (yl : Nat → Int) (zl : Nat → Int) => decide (al + nl ≤ ml)) x.1.1 x.1.2.1 x.1.2.2.1 x.1.2.2.2.1 x.1.2.2.2.2.1 x.1.2.2.2.2.2.1 x.1.2.2.2.2.2.2.1 x.2.1.1 x.2.1.2.1 x.2.1.2.2.1 x.2.1.2.2.2.1 x.2.1.2.2.2.2.1 x.2.1.2.2.2.2.2.1 x.2.1.2.2.2.2.2.2.1 x.2.1.2.2.2.2.2.2.2.1 x.2.1.2.2.2.2.2.2.2.2.1 x.2.1.2.2.2.2.2.2.2.2.2.1, fun (x : (Int × Int × Int × Int × Int × Int × Int × Unit) × (Nat × Nat × Nat × (Nat → Int) × (Nat → Int) × (Nat → Int) × (Nat → Int) × (Nat → Int) × (Nat → Int) × (Nat → Int) × Unit) × Unit) => (fun (kd : Int) (pc : Int) (pn : Int) (of : Int) (rs : Int) (rg : Int) (re : Int) (al nl ml : Nat) (tl : Nat → Int) (vl : Nat → Int) (gl : Nat → Int) (wl : Nat → Int) (xl : Nat → Int) (yl : Nat → Int) (zl : Nat → Int) => (V6 kd pc pn of rs rg re al nl ml tl vl gl wl xl yl zl) (true)) x.1.1 x.1.2.1 x.1.2.2.1 x.1.2.2.2.1 x.1.2.2.2.2.1 x.1.2.2.2.2.2.1 x.1.2.2.2.2.2.2.1 x.2.1.1 x.2.1.2.1 x.2.1.2.2.1 x.2.1.2.2.2.1 x.2.1.2.2.2.2.1 x.2.1.2.2.2.2.2.1 x.2.1.2.2.2.2.2.2.1 x.2.1.2.2.2.2.2.2.2.1 x.2.1.2.2.2.2.2.2.2.2.1 x.2.1.2.2.2.2.2.2.2.2.2.1, fun (x : (Int × Int × Int × Int × Int × Int × Int × Unit) × (Nat × Nat × Nat × (Nat → Int) × (Nat → Int) × (Nat → Int) × (Nat → Int) × (Nat → Int) × (Nat → Int) × (Nat → Int) × Unit) × Unit) => (fun (kd : Int) (pc : Int) (pn : Int) (of : Int) (rs : Int) (rg : Int) (re : Int) (al nl ml : Nat) (tl : Nat → Int) (vl : Nat → Int) (gl : Nat → Int) (wl : Nat → Int) (xl : Nat → Int) (yl : Nat → Int) (zl : Nat → Int) => (N6 kd pc pn of rs rg re al nl ml tl vl gl wl xl yl zl) (true)) x.1.1 x.1.2.1 x.1.2.2.1 x.1.2.2.2.1 x.1.2.2.2.2.1 x.1.2.2.2.2.2.1 x.1.2.2.2.2.2.2.1 x.2.1.1 x.2.1.2.1 x.2.1.2.2.1 x.2.1.2.2.2.1 x.2.1.2.2.2.2.1 x.2.1.2.2.2.2.2.1 x.2.1.2.2.2.2.2.2.1 x.2.1.2.2.2.2.2.2.2.1 x.2.1.2.2.2.2.2.2.2.2.1 x.2.1.2.2.2.2.2.2.2.2.2.1, fun _ _ => .dead⟩
theorem s6 (kd pc pn of rs rg re : Int) (al nl ml : Nat) (tl vl gl wl xl yl zl : Nat → Int) (hp : al + nl ≤ ml) : Goes ((q6 kd pc pn of rs rg re al nl ml tl vl gl wl xl yl zl)) ((p6 kd pc pn of rs rg re al nl ml tl vl gl wl xl yl zl)) (true) := by
  unfold p6
  generalize S.curS kd pc pn of rs rg re nl (fun j => tl (j + al)) (fun j => vl (j + al)) (fun j => gl (j + al)) (fun j => wl (j + al)) (fun j => xl (j + al)) (fun j => yl (j + al)) (fun j => zl (j + al)) = A at *
  generalize S.insE kd pc pn of rs rg re = B at *
  by_cases h0 : (nl : Int) > 60
  · exact goes_ok (decide_eq_true h0) (goes_inr.mpr rfl)
  · refine goes_no (decide_eq_false h0) ?_
    repeat' first
      | with_reducible exact goes_inr.mpr rfl
      | (refine goes_ok ?_ ?_; focus (first | with_reducible exact beq_self_eq_true _ | (simp only [Bool.and_eq_true, decide_eq_true_eq, and_self, eq_self]; done) | with_reducible exact decide_eq_true trivial | with_reducible exact decide_eq_true rfl | (simp only [eq_self, decide_true, Bool.and_self, Bool.and_true, Bool.true_and]; done) | (apply decide_eq_true; omega) | (rw [lim64]; apply decide_eq_true; omega) | (apply decide_eq_true; simp only [mkl_len, mkl_zero, List.length_nil, true_and, and_true, and_self, Nat.zero_add, Nat.add_zero, Nat.le_refl]; done) | (apply decide_eq_true; simp only [mkl_len, mkl_zero, List.length_nil, true_and, and_true, and_self, Nat.zero_add, Nat.add_zero, Nat.le_refl]; omega) | decide | simp))
      | (refine goes_no ?_ ?_; focus (first | with_reducible exact bne_self_eq_false _ | (apply decide_eq_false; omega) | decide))
theorem k6_ok  : k6.ok Try.prog := by
  intro x hx
  obtain ⟨⟨kd, pc, pn, of, rs, rg, re, _⟩, ⟨al, nl, ml, tl, vl, gl, wl, xl, yl, zl, _⟩, _⟩ := x
  obtain ⟨h1, h2⟩ := a6 kd pc pn of rs rg re al nl ml tl vl gl wl xl yl zl (s6 kd pc pn of rs rg re al nl ml tl vl gl wl xl yl zl (of_dec hx rfl))
  exact ⟨⟨400, (by decide : 1 + 1 + 0 ≤ 400), h1⟩, h2⟩
theorem pre6  {x : SsI k6.ss} (hx : ssFits k6.ss x) : k6.pre (ssj k6.ss x) = true := by
  obtain ⟨⟨b0, b1, b2, b3, b4, b5, b6, u1⟩, ⟨n, t0, t1, t2, t3, t4, t5, t6, u'⟩, u''⟩ := x
  exact decide_eq_true (Nat.le_of_eq (Nat.zero_add _))
end Go.Ev
