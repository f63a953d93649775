/-
  The same buffer.
-/
import Derived.Test.YtedbjnojogjnkaaL5a
import Derived.Test.YtedbjnojogjnkaaLA
namespace Go.Ev
open Go.Proofs
set_option linter.unusedVariables false
set_option linter.unusedSimpArgs false
abbrev St21 := Empty
abbrev Rt21 := Bool
noncomputable def V21 (ca : Int) (af : Int) (al nl ml : Nat) (tl : Nat → Int) (vl : Nat → Int) (gl : Nat → Bool) (ov : Int) (re : Int) (fz : Bool) (cb : Int) (ab : Int) (ak nk mk : Nat) (tk : Nat → Int) (vk : Nat → Int) (gk : Nat → Bool) (ou : Int) (rd : Int) (fy : Bool) (r : Rt21) : PV := PV.bool r
noncomputable def N21 (ca : Int) (af : Int) (al nl ml : Nat) (tl : Nat → Int) (vl : Nat → Int) (gl : Nat → Bool) (ov : Int) (re : Int) (fz : Bool) (cb : Int) (ab : Int) (ak nk mk : Nat) (tk : Nat → Int) (vk : Nat → Int) (gk : Nat → Bool) (ou : Int) (rd : Int) (fy : Bool) (r : Rt21) : List Blk := []
noncomputable def I21 (ca : Int) (af : Int) (al nl ml : Nat) (tl : Nat → Int) (vl : Nat → Int) (gl : Nat → Bool) (ov : Int) (re : Int) (fz : Bool) (cb : Int) (ab : Int) (ak nk mk : Nat) (tk : Nat → Int) (vk : Nat → Int) (gk : Nat → Bool) (ou : Int) (rd : Int) (fy : Bool) : St21 → Hd := fun s => s.elim
noncomputable def q21 (ca : Int) (af : Int) (al nl ml : Nat) (tl : Nat → Int) (vl : Nat → Int) (gl : Nat → Bool) (ov : Int) (re : Int) (fz : Bool) (cb : Int) (ab : Int) (ak nk mk : Nat) (tk : Nat → Int) (vk : Nat → Int) (gk : Nat → Bool) (ou : Int) (rd : Int) (fy : Bool) : St21 → Option (St21 ⊕ Rt21) := fun s => s.elim
noncomputable def p21 (ca : Int) (af : Int) (al nl ml : Nat) (tl : Nat → Int) (vl : Nat → Int) (gl : Nat → Bool) (ov : Int) (re : Int) (fz : Bool) (cb : Int) (ab : Int) (ak nk mk : Nat) (tk : Nat → Int) (vk : Nat → Int) (gk : Nat → Bool) (ou : Int) (rd : Int) (fy : Bool) : Option (St21 ⊕ Rt21) := bif (ca == cb)
 then (bif (af == ab)
 then (bif (ov == ou)
 then (bif (re == rd)
 then (bif (fz)
 then (bif (fy)
 then (bif (decide (al + nl ≤ ml ∧ nl ≤ 1000000 ∧ ak + nk ≤ mk ∧ nk ≤ 1000000))
 then (bif (decide
 ((S.mkl nl fun (j : Nat) => (tl (j + al), vl (j + al), gl (j + al))) =
 S.mkl nk fun (j : Nat) => (tk (j + ak), vk (j + ak), gk (j + ak))))
 then (some (.inr (true)))
 else (some (.inr (false))))
 else (none))
 else (some (.inr (false))))
 else (bif (fy)
 then (some (.inr (false)))
 else (bif (decide (al + nl ≤ ml ∧ nl ≤ 1000000 ∧ ak + nk ≤ mk ∧ nk ≤ 1000000))
 then (bif (decide
 ((S.mkl nl fun (j : Nat) => (tl (j + al), vl (j + al), gl (j + al))) =
 S.mkl nk fun (j : Nat) => (tk (j + ak), vk (j + ak), gk (j + ak))))
 then (some (.inr (true)))
 else (some (.inr (false))))
 else (none))))
 else (some (.inr (false))))
 else (some (.inr (false))))
 else (some (.inr (false))))
 else (some (.inr (false)))
noncomputable def Te21 (test : Bool → Prop → Prop → Prop) (Kst : KS) (Kret : KR) (ca : Int) (af : Int) (al nl ml : Nat) (tl : Nat → Int) (vl : Nat → Int) (gl : Nat → Bool) (ov : Int) (re : Int) (fz : Bool) (cb : Int) (ab : Int) (ak nk mk : Nat) (tk : Nat → Int) (vk : Nat → Int) (gk : Nat → Bool) (ou : Int) (rd : Int) (fy : Bool) : Prop :=
  test (ca == cb)
 (test (af == ab)
 (test (ov == ou)
 (test (re == rd)
 (test (fz)
 (test (fy)
 (test (decide (al + nl ≤ ml ∧ nl ≤ 1000000 ∧ ak + nk ≤ mk ∧ nk ≤ 1000000))
 (test (decide
 ((S.mkl nl fun (j : Nat) => (tl (j + al), vl (j + al), gl (j + al))) =
 S.mkl nk fun (j : Nat) => (tk (j + ak), vk (j + ak), gk (j + ak))))
 (Kret (PV.tf true) ([[(1, false,
 Blk.cols mk [Col.int IntKind.i64 tk, Col.int IntKind.i64 vk, Col.bool gk]),
 (0, false,
 Blk.cols ml [Col.int IntKind.i64 tl, Col.int IntKind.i64 vl, Col.bool gl])]]) (5))
 (Kret (PV.tf false) ([[(1, false,
 Blk.cols mk [Col.int IntKind.i64 tk, Col.int IntKind.i64 vk, Col.bool gk]),
 (0, false,
 Blk.cols ml [Col.int IntKind.i64 tl, Col.int IntKind.i64 vl, Col.bool gl])]]) (5)))
 (False))
 (Kret (PV.tf false) ([[(1, false,
 Blk.cols mk [Col.int IntKind.i64 tk, Col.int IntKind.i64 vk, Col.bool gk]),
 (0, false,
 Blk.cols ml [Col.int IntKind.i64 tl, Col.int IntKind.i64 vl, Col.bool gl])]]) (4)))
 (test (fy)
 (Kret (PV.tf false) ([[(1, false,
 Blk.cols mk [Col.int IntKind.i64 tk, Col.int IntKind.i64 vk, Col.bool gk]),
 (0, false,
 Blk.cols ml [Col.int IntKind.i64 tl, Col.int IntKind.i64 vl, Col.bool gl])]]) (4))
 (test (decide (al + nl ≤ ml ∧ nl ≤ 1000000 ∧ ak + nk ≤ mk ∧ nk ≤ 1000000))
 (test (decide
 ((S.mkl nl fun (j : Nat) => (tl (j + al), vl (j + al), gl (j + al))) =
 S.mkl nk fun (j : Nat) => (tk (j + ak), vk (j + ak), gk (j + ak))))
 (Kret (PV.tf true) ([[(1, false,
 Blk.cols mk [Col.int IntKind.i64 tk, Col.int IntKind.i64 vk, Col.bool gk]),
 (0, false,
 Blk.cols ml [Col.int IntKind.i64 tl, Col.int IntKind.i64 vl, Col.bool gl])]]) (5))
 (Kret (PV.tf false) ([[(1, false,
 Blk.cols mk [Col.int IntKind.i64 tk, Col.int IntKind.i64 vk, Col.bool gk]),
 (0, false,
 Blk.cols ml [Col.int IntKind.i64 tl, Col.int IntKind.i64 vl, Col.bool gl])]]) (5)))
 (False))))
 (Kret (PV.tf false) ([[(1, false,
 Blk.cols mk [Col.int IntKind.i64 tk, Col.int IntKind.i64 vk, Col.bool gk]),
 (0, false,
 Blk.cols ml [Col.int IntKind.i64 tl, Col.int IntKind.i64 vl, Col.bool gl])]]) (4)))
 (Kret (PV.tf false) ([[(1, false,
 Blk.cols mk [Col.int IntKind.i64 tk, Col.int IntKind.i64 vk, Col.bool gk]),
 (0, false,
 Blk.cols ml [Col.int IntKind.i64 tl, Col.int IntKind.i64 vl, Col.bool gl])]]) (4)))
 (Kret (PV.tf false) ([[(1, false,
 Blk.cols mk [Col.int IntKind.i64 tk, Col.int IntKind.i64 vk, Col.bool gk]),
 (0, false,
 Blk.cols ml [Col.int IntKind.i64 tl, Col.int IntKind.i64 vl, Col.bool gl])]]) (4)))
 (Kret (PV.tf false) ([[(1, false,
 Blk.cols mk [Col.int IntKind.i64 tk, Col.int IntKind.i64 vk, Col.bool gk]),
 (0, false,
 Blk.cols ml [Col.int IntKind.i64 tl, Col.int IntKind.i64 vl, Col.bool gl])]]) (4))
set_option maxRecDepth 100000 in
theorem te21 (test : Bool → Prop → Prop → Prop) (Kst : KS) (Kret : KR) (ca : Int) (af : Int) (al nl ml : Nat) (tl : Nat → Int) (vl : Nat → Int) (gl : Nat → Bool) (ov : Int) (re : Int) (fz : Bool) (cb : Int) (ab : Int) (ak nk mk : Nat) (tk : Nat → Int) (vk : Nat → Int) (gk : Nat → Bool) (ou : Int) (rd : Int) (fy : Bool) : run test Try.env true (xC test) true 400 ⟨21, [.cd (mkFn Try.f21).body], argT 0 [.agg [.int .i64 ca, .int .i64 af, .loose ⟨0, 3, al, 0⟩ nl, .int .i64 ov, .int .i64 re, .bool fz], .agg [.int .i64 cb, .int .i64 ab, .loose ⟨1, 3, ak, 0⟩ nk, .int .i64 ou, .int .i64 rd, .bool fy]], [[], [(0, (false, .cols ml [.int .i64 tl, .int .i64 vl, .bool gl])), (1, (false, .cols mk [.int .i64 tk, .int .i64 vk, .bool gk]))]], 2⟩ (proj 2 [] Kst Kret) =
  Te21 test Kst Kret ca af al nl ml tl vl gl ov re fz cb ab ak nk mk tk vk gk ou rd fy := by kernel_rfl
set_option maxRecDepth 100000 in
theorem be21 (ca : Int) (af : Int) (al nl ml : Nat) (tl : Nat → Int) (vl : Nat → Int) (gl : Nat → Bool) (ov : Int) (re : Int) (fz : Bool) (cb : Int) (ab : Int) (ak nk mk : Nat) (tk : Nat → Int) (vk : Nat → Int) (gk : Nat → Bool) (ou : Int) (rd : Int) (fy : Bool) (Kst : KS) (Kret : KR) (x : St21 ⊕ Rt21) (hS : HS 2 400 ((I21 ca af al nl ml tl vl gl ov re fz cb ab ak nk mk tk vk gk ou rd fy)) Kst x) (hR : HR 2 400 ((V21 ca af al nl ml tl vl gl ov re fz cb ab ak nk mk tk vk gk ou rd fy)) (fun r => [newL (2 + 1) ((N21 ca af al nl ml tl vl gl ov re fz cb ab ak nk mk tk vk gk ou rd fy) r) ++ [(0, (false, .cols ml [.int .i64 tl, .int .i64 vl, .bool gl])), (1, (false, .cols mk [.int .i64 tk, .int .i64 vk, .bool gk]))]]) Kret x) (h : (bif (ca == cb)
 then (bif (af == ab)
 then (bif (ov == ou)
 then (bif (re == rd)
 then (bif (fz)
 then (bif (fy)
 then (bif (decide (al + nl ≤ ml ∧ nl ≤ 1000000 ∧ ak + nk ≤ mk ∧ nk ≤ 1000000))
 then (bif (decide
 ((S.mkl nl fun (j : Nat) => (tl (j + al), vl (j + al), gl (j + al))) =
 S.mkl nk fun (j : Nat) => (tk (j + ak), vk (j + ak), gk (j + ak))))
 then (some (.inr (true)))
 else (some (.inr (false))))
 else (none))
 else (some (.inr (false))))
 else (bif (fy)
 then (some (.inr (false)))
 else (bif (decide (al + nl ≤ ml ∧ nl ≤ 1000000 ∧ ak + nk ≤ mk ∧ nk ≤ 1000000))
 then (bif (decide
 ((S.mkl nl fun (j : Nat) => (tl (j + al), vl (j + al), gl (j + al))) =
 S.mkl nk fun (j : Nat) => (tk (j + ak), vk (j + ak), gk (j + ak))))
 then (some (.inr (true)))
 else (some (.inr (false))))
 else (none))))
 else (some (.inr (false))))
 else (some (.inr (false))))
 else (some (.inr (false))))
 else (some (.inr (false))) : Option (St21 ⊕ Rt21)) = some x) : Te21 cond Kst Kret ca af al nl ml tl vl gl ov re fz cb ab ak nk mk tk vk gk ou rd fy := by
  unfold Te21
  exact bif_split h
   (fun c0 h => bif_split h
   (fun c1 h => bif_split h
   (fun c2 h => bif_split h
   (fun c3 h => bif_split h
   (fun c4 h => bif_split h
   (fun c5 h => bif_split h
   (fun c6 h => bif_split h
   (fun c7 h => ret_at hR _ h (fun n => n) rfl rfl rfl (rn_bool_tf rfl) rfl (entl_bor (use_lo rfl) rfl rfl (entl_bor (use_lo rfl) rfl rfl entl_nil)))
   (fun c7 h => ret_at hR _ h (fun n => n) rfl rfl rfl (rn_bool_tf rfl) rfl (entl_bor (use_lo rfl) rfl rfl (entl_bor (use_lo rfl) rfl rfl entl_nil))))
   (fun c6 h => no_some h))
   (fun c5 h => ret_at hR _ h (fun n => n) rfl rfl rfl (rn_bool_tf rfl) rfl (entl_bor (use_lo rfl) rfl rfl (entl_bor (use_lo rfl) rfl rfl entl_nil))))
   (fun c4 h => bif_split h
   (fun c5 h => ret_at hR _ h (fun n => n) rfl rfl rfl (rn_bool_tf rfl) rfl (entl_bor (use_lo rfl) rfl rfl (entl_bor (use_lo rfl) rfl rfl entl_nil)))
   (fun c5 h => bif_split h
   (fun c6 h => bif_split h
   (fun c7 h => ret_at hR _ h (fun n => n) rfl rfl rfl (rn_bool_tf rfl) rfl (entl_bor (use_lo rfl) rfl rfl (entl_bor (use_lo rfl) rfl rfl entl_nil)))
   (fun c7 h => ret_at hR _ h (fun n => n) rfl rfl rfl (rn_bool_tf rfl) rfl (entl_bor (use_lo rfl) rfl rfl (entl_bor (use_lo rfl) rfl rfl entl_nil))))
   (fun c6 h => no_some h))))
   (fun c3 h => ret_at hR _ h (fun n => n) rfl rfl rfl (rn_bool_tf rfl) rfl (entl_bor (use_lo rfl) rfl rfl (entl_bor (use_lo rfl) rfl rfl entl_nil))))
   (fun c2 h => ret_at hR _ h (fun n => n) rfl rfl rfl (rn_bool_tf rfl) rfl (entl_bor (use_lo rfl) rfl rfl (entl_bor (use_lo rfl) rfl rfl entl_nil))))
   (fun c1 h => ret_at hR _ h (fun n => n) rfl rfl rfl (rn_bool_tf rfl) rfl (entl_bor (use_lo rfl) rfl rfl (entl_bor (use_lo rfl) rfl rfl entl_nil))))
   (fun c0 h => ret_at hR _ h (fun n => n) rfl rfl rfl (rn_bool_tf rfl) rfl (entl_bor (use_lo rfl) rfl rfl (entl_bor (use_lo rfl) rfl rfl entl_nil)))
theorem a21 (ca : Int) (af : Int) (al nl ml : Nat) (tl : Nat → Int) (vl : Nat → Int) (gl : Nat → Bool) (ov : Int) (re : Int) (fz : Bool) (cb : Int) (ab : Int) (ak nk mk : Nat) (tk : Nat → Int) (vk : Nat → Int) (gk : Nat → Bool) (ou : Int) (rd : Int) (fy : Bool) {r : Rt21} (h : Goes ((q21 ca af al nl ml tl vl gl ov re fz cb ab ak nk mk tk vk gk ou rd fy)) ((p21 ca af al nl ml tl vl gl ov re fz cb ab ak nk mk tk vk gk ou rd fy)) r) : CallR Try.prog 21 [.agg [.int .i64 ca, .int .i64 af, .loose ⟨0, 3, al, 0⟩ nl, .int .i64 ov, .int .i64 re, .bool fz], .agg [.int .i64 cb, .int .i64 ab, .loose ⟨1, 3, ak, 0⟩ nk, .int .i64 ou, .int .i64 rd, .bool fy]] [[(0, (false, .cols ml [.int .i64 tl, .int .i64 vl, .bool gl])), (1, (false, .cols mk [.int .i64 tk, .int .i64 vk, .bool gk]))]] 2 ((V21 ca af al nl ml tl vl gl ov re fz cb ab ak nk mk tk vk gk ou rd fy) r) ((fun r => [newL (2 + 1) ((N21 ca af al nl ml tl vl gl ov re fz cb ab ak nk mk tk vk gk ou rd fy) r) ++ [(0, (false, .cols ml [.int .i64 tl, .int .i64 vl, .bool gl])), (1, (false, .cols mk [.int .i64 tk, .int .i64 vk, .bool gk]))]]) r) 400 ∧ ∃ F, Try.prog.funcs[21]? = some F ∧ F.body.isSome = true ∧ (F.name == "runtime.NumGoroutine") = false := by
  refine dec_calls (f := 21) (lo := 2) (hi := 400) (H := [[(0, (false, .cols ml [.int .i64 tl, .int .i64 vl, .bool gl])), (1, (false, .cols mk [.int .i64 tk, .int .i64 vk, .bool gk]))]]) (args := [.agg [.int .i64 ca, .int .i64 af, .loose ⟨0, 3, al, 0⟩ nl, .int .i64 ov, .int .i64 re, .bool fz], .agg [.int .i64 cb, .int .i64 ab, .loose ⟨1, 3, ak, 0⟩ nk, .int .i64 ou, .int .i64 rd, .bool fy]]) Try.envOk Try.mixed xC_ok ((I21 ca af al nl ml tl vl gl ov re fz cb ab ak nk mk tk vk gk ou rd fy)) ((V21 ca af al nl ml tl vl gl ov re fz cb ab ak nk mk tk vk gk ou rd fy)) (fun r => [newL (2 + 1) ((N21 ca af al nl ml tl vl gl ov re fz cb ab ak nk mk tk vk gk ou rd fy) r) ++ [(0, (false, .cols ml [.int .i64 tl, .int .i64 vl, .bool gl])), (1, (false, .cols mk [.int .i64 tk, .int .i64 vk, .bool gk]))]]) (fn := mkFn Try.f21) (ts := []) (n := 400) rfl (by decide) (by simp) (names_of rfl) ?_ ?_ ?_ h
  · intro s; exact s.elim
  · intro Kst Kret x hS hR h
    exact Holds.eq (te21 cond Kst Kret ca af al nl ml tl vl gl ov re fz cb ab ak nk mk tk vk gk ou rd fy) (be21 ca af al nl ml tl vl gl ov re fz cb ab ak nk mk tk vk gk ou rd fy Kst Kret x hS hR h)
  · intro Kst Kret x hS hR s h; exact s.elim
noncomputable def k21 : Con := ⟨21, [.agg [.plain (.int .i64), .plain (.int .i64), .list [.int .i64, .int .i64, .bool], .plain (.int .i64), .plain (.int .i64), .plain (.bool)], .agg [.plain (.int .i64), .plain (.int .i64), .list [.int .i64, .int .i64, .bool], .plain (.int .i64), .plain (.int .i64), .plain (.bool)]], fun (x : (Int × Int × (Nat × Nat × Nat × (Nat → Int) × (Nat → Int) × (Nat → Bool) × Unit) × Int × Int × Bool × Unit) × (Int × Int × (Nat × Nat × Nat × (Nat → Int) × (Nat → Int) × (Nat → Bool) × Unit) × Int × Int × Bool × Unit) × Unit) => (fun (ca : Int) (af : Int) (al nl ml : Nat) (tl : Nat → Int) (vl : Nat → Int) (gl : Nat → Bool) (ov : Int) (re : Int) (fz : Bool) (cb : Int) (ab : Int) (ak nk mk : Nat) (tk : Nat → Int) (vk : Nat → Int) (gk : Nat → Bool) (ou : Int) (rd : Int) (fy : Bool) => decide (al + nl ≤ ml ∧ nl ≤ 1000000 ∧ ak + nk ≤ mk ∧ nk ≤ 1000000)) x.1.1 x.1.2.1 x.1.2.2.1.1 x.1.2.2.1.2.1 x.1.2.2.1.2.2.1 x.1.2.2.1.2.2.2.1 x.1.2.2.1.2.2.2.2.1 x.1.2.2.1.2.2.2.2.2.1 x.1.2.2.2.1 x.1.2.2.2.2.1 x.1.2.2.2.2.2.1 x.2.1.1 x.2.1.2.1 x.2.1.2.2.1.1 x.2.1.2.2.1.2.1 x.2.1.2.2.1.2.2.1 x.2.1.2.2.1.2.2.2.1 x.2.1.2.2.1.2.2.2.2.1 x.2.1.2.2.1.2.2.2.2.2.1 x.2.1.2.2.2.1 x.2.1.2.2.2.2.1 x.2.1.2.2.2.2.2.1, fun (x : (Int × Int × (Nat × Nat × Nat × (Nat → Int) × (Nat → Int) × (Nat → Bool) × Unit) × Int × Int × Bool × Unit) × (Int × Int × (Nat × Nat × Nat × (Nat → Int) × (Nat → Int) × (Nat → Bool) × Unit) × Int × Int × Bool × Unit) × Unit) => (fun (ca : Int) (af : Int) (al nl ml : Nat) (tl : Nat → Int) (vl : Nat → Int) (gl : Nat → Bool) (ov : Int) (re : Int) (fz : Bool) (cb : Int) (ab : Int) (ak nk mk : Nat) (tk : Nat → Int) (vk : Nat → Int) (gk : Nat → Bool) (ou : Int) (rd : Int) (fy : Bool) => (V21 ca af al nl ml tl vl gl ov re fz cb ab ak nk mk tk vk gk ou rd fy) (decide (ca = cb ∧ af = ab ∧ ov = ou ∧ re = rd ∧ fz = fy ∧ (S.mkl nl fun j => (tl (j + al), vl (j + al), gl (j + al))) = (S.mkl nk fun j => (tk (j + ak), vk (j + ak), gk (j + ak)))))) x.1.1 x.1.2.1 x.1.2.2.1.1 x.1.2.2.1.2.1 x.1.2.2.1.2.2.1 x.1.2.2.1.2.2.2.1 x.1.2.2.1.2.2.2.2.1 x.1.2.2.1.2.2.2.2.2.1 x.1.2.2.2.1 x.1.2.2.2.2.1 x.1.2.2.2.2.2.1 x.2.1.1 x.2.1.2.1 x.2.1.2.2.1.1 x.2.1.2.2.1.2.1 x.2.1.2.2.1.2.2.1 x.2.1.2.2.1.2.2.2.1 x.2.1.2.2.1.2.2.2.2.1 x.2.1.2.2.1.2.2.2.2.2.1 x.2.1.2.2.2.1 x.2.1.2.2.2.2.1 x.2.1.2.2.2.2.2.1, fun (x : (Int × Int × (Nat × Nat × Nat × (Nat → Int) × (Nat → Int) × (Nat → Bool) × Unit) × Int × Int × Bool × Unit) × (Int × Int × (Nat × Nat × Nat × (Nat → Int) × (Nat → Int) × (Nat → Bool) × Unit) × Int × Int × Bool × Unit) × Unit) => (fun (ca : Int) (af : Int) (al nl ml : Nat) (tl : Nat → Int) (vl : Nat → Int) (gl : Nat → Bool) (ov : Int) (re : Int) (fz : Bool) (cb : Int) (ab : Int) (ak nk mk : Nat) (tk : Nat → Int) (vk : Nat → Int) (gk : Nat → Bool) (ou : Int) (rd : Int) (fy : Bool) => (N21 ca af al nl ml tl vl gl ov re fz cb ab ak nk mk tk vk gk ou rd fy) (decide (ca = cb ∧ af = ab ∧ ov = ou ∧ re = rd ∧ fz = fy ∧ (S.mkl nl fun j => (tl (j + al), vl (j + al), gl (j + al))) = (S.mkl nk fun j => (tk (j + ak), vk (j + ak), gk (j + ak)))))) x.1.1 x.1.2.1 x.1.2.2.1.1 x.1.2.2.1.2.1 x.1.2.2.1.2.2.1 x.1.2.2.1.2.2.2.1 x.1.2.2.1.2.2.2.2.1 x.1.2.2.1.2.2.2.2.2.1 x.1.2.2.2.1 x.1.2.2.2.2.1 x.1.2.2.2.2.2.1 x.2.1.1 x.2.1.2.1 x.2.1.2.2.1.1 x.2.1.2.2.1.2.1 x.2.1.2.2.1.2.2.1 x.2.1.2.2.1.2.2.2.1 x.2.1.2.2.1.2.2.2.2.1 x.2.1.2.2.1.2.2.2.2.2.1 x.2.1.2.2.2.1 x.2.1.2.2.2.2.1 x.2.1.2.2.2.2.2.1⟩
theorem s21 (ca : Int) (af : Int) (al nl ml : Nat) (tl : Nat → Int) (vl : Nat → Int) (gl : Nat → Bool) (ov : Int) (re : Int) (fz : Bool) (cb : Int) (ab : Int) (ak nk mk : Nat) (tk : Nat → Int) (vk : Nat → Int) (gk : Nat → Bool) (ou : Int) (rd : Int) (fy : Bool) (hp : al + nl ≤ ml ∧ nl ≤ 1000000 ∧ ak + nk ≤ mk ∧ nk ≤ 1000000) : Goes ((q21 ca af al nl ml tl vl gl ov re fz cb ab ak nk mk tk vk gk ou rd fy)) ((p21 ca af al nl ml tl vl gl ov re fz cb ab ak nk mk tk vk gk ou rd fy)) (decide (ca = cb ∧ af = ab ∧ ov = ou ∧ re = rd ∧ fz = fy ∧ (S.mkl nl fun j => (tl (j + al), vl (j + al), gl (j + al))) = (S.mkl nk fun j => (tk (j + ak), vk (j + ak), gk (j + ak))))) := by
  obtain ⟨hp1, hp2, hp3, hp4⟩ := hp
  show Goes _ _ _
  unfold p21
  repeat' first
    | with_reducible refine goes_if (fun h => ?_) (fun h => ?_) <;> (try simp only [lim64, decide_eq_true_eq, decide_eq_false_iff_not, Int.toNat_natCast, toNat_pred, toNat_succ, Option.getD_some, Option.getD_none, Bool.not_eq_true', Bool.not_eq_false', Bool.and_eq_true, Bool.or_eq_true, Bool.and_eq_false_iff, Bool.or_eq_false_iff, bne_iff_ne, beq_iff_eq, bne_eq_false_iff_eq, beq_eq_false_iff_ne, ne_eq, not_and, Int.not_le, Int.not_lt, ge_iff_le, gt_iff_lt, Nat.not_lt, Nat.not_le, Bool.not_eq_true, Bool.not_eq_false, Bool.true_eq_false, Bool.false_eq_true, not_false_eq_true, not_true_eq_false] at h)
    | exact goes_none.mpr (by omega)
  all_goals first
    | (exfalso; omega)
    | (refine goes_inr.mpr ?_; refine (decide_eq_true ?_).symm; simp_all; done)
    | (refine goes_inr.mpr ?_; refine (decide_eq_false ?_).symm; simp_all; done)
    | (refine goes_inr.mpr ?_; simp_all; done)

theorem k21_ok : k21.ok Try.prog := by
  intro x hx
  obtain ⟨⟨ca, af, ⟨al, nl, ml, tl, vl, gl, _⟩, ov, re, fz, _⟩, ⟨cb, ab, ⟨ak, nk, mk, tk, vk, gk, _⟩, ou, rd, fy, _⟩, _⟩ := x
  obtain ⟨h1, h2⟩ := a21 ca af al nl ml tl vl gl ov re fz cb ab ak nk mk tk vk gk ou rd fy (s21 ca af al nl ml tl vl gl ov re fz cb ab ak nk mk tk vk gk ou rd fy (of_decide_eq_true hx))
  exact ⟨⟨400, (by decide : 2 + 1 + 0 ≤ 400), h1⟩, h2⟩
noncomputable def xD (test : Bool → Prop → Prop → Prop) : Ext := consX test [k11, k19, k20, k32, k35, k12, k14, k23, k24, k25, k26, k15, k16, k17, k18, k13, k47, k22, k21]
theorem xD_ok : ExtOk Try.prog (xD cond) := consX_ok ⟨k11_ok, k19_ok, k20_ok, k32_ok, k35_ok, k12_ok, k14_ok, k23_ok, k24_ok, k25_ok, k26_ok, k15_ok, k16_ok, k17_ok, k18_ok, k13_ok, k47_ok, k22_ok, k21_ok, trivial⟩

end Go.Ev
