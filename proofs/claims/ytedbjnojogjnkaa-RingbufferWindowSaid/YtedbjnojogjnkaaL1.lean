/-
  The error of samples, in the program and in the reference.
-/
import Derived.Test.YtedbjnojogjnkaaL0
namespace Go.Ev
open Go.Proofs
set_option linter.unusedVariables false
set_option linter.unusedSimpArgs false
set_option maxRecDepth 100000

namespace S
def okS (t v : Int) : Bool := decide (0 ≤ t ∧ t ≤ 1099511627776 ∧ -1099511627776 ≤ v ∧ v ≤ 1099511627776)
/-- The error of samples, from the i-th on. -/
def errS (t v : Nat → Int) : Nat → Nat → Int
  | _, 0 => 0
  | i, k + 1 => if okS (t i) (v i) = true then (if 0 < i ∧ t i < t (i - 1) then 15 else errS t v (i + 1) k) else 6
end S
inductive St45 where
  | h0 (x0 : Int)
abbrev Rt45 := Int
noncomputable def V45 (aa na ma : Nat) (ta : Nat → Int) (va : Nat → Int) (ga : Nat → Bool) (r : Rt45) : PV := PV.int IntKind.i64 r
noncomputable def N45 (aa na ma : Nat) (ta : Nat → Int) (va : Nat → Int) (ga : Nat → Bool) (r : Rt45) : List Blk := []
noncomputable def I45 (aa na ma : Nat) (ta : Nat → Int) (va : Nat → Int) (ga : Nat → Bool) : St45 → Hd
  | .h0 x0 => ⟨hd Try.f45 0, [PV.loose (PA.mk (0) (3) aa (0)) na,
 PV.loose (PA.mk (0) (3) aa (0)) na, PV.int IntKind.i64 (↑na : Int),
 PV.int IntKind.i64 x0], [[], [(0, (false, .cols ma [.int .i64 ta, .int .i64 va, .bool ga]))]], 1⟩
noncomputable def q45 (aa na ma : Nat) (ta : Nat → Int) (va : Nat → Int) (ga : Nat → Bool) : St45 → Option (St45 ⊕ Rt45)
  | .h0 x0 => bif (decide (x0 < (↑na : Int)))
 then (bif (decide ((0 : Int) ≤ x0 ∧ x0 < (↑na : Int)))
 then (bif (decide (Int.toNat x0 + aa < ma))
 then (bif (decide (ta (Int.toNat x0 + aa) ≥ (0 : Int)))
 then (bif (decide (ta (Int.toNat x0 + aa) ≤ (1099511627776 : Int)))
 then (bif (decide (va (Int.toNat x0 + aa) ≥ (-1099511627776 : Int)))
 then (bif (decide (va (Int.toNat x0 + aa) ≤ (1099511627776 : Int)))
 then (bif (decide (x0 > (0 : Int)))
 then (bif (lim IntKind.i64 (x0 - (1 : Int)))
 then (bif (decide ((0 : Int) ≤ x0 - (1 : Int) ∧ x0 - (1 : Int) < (↑na : Int)))
 then (bif (decide (Int.toNat (x0 - (1 : Int)) + aa < ma))
 then (bif (decide (ta (Int.toNat x0 + aa) < ta (Int.toNat (x0 - (1 : Int)) + aa)))
 then (some (.inr ((15 : Int))))
 else (bif (lim IntKind.i64 (x0 + (1 : Int)))
 then (some (.inl (.h0 (x0 + (1 : Int)))))
 else (none)))
 else (none))
 else (none))
 else (none))
 else (bif (lim IntKind.i64 (x0 + (1 : Int)))
 then (some (.inl (.h0 (x0 + (1 : Int)))))
 else (none)))
 else (some (.inr ((6 : Int)))))
 else (some (.inr ((6 : Int)))))
 else (some (.inr ((6 : Int)))))
 else (some (.inr ((6 : Int)))))
 else (none))
 else (none))
 else (some (.inr ((0 : Int))))
noncomputable def p45 (aa na ma : Nat) (ta : Nat → Int) (va : Nat → Int) (ga : Nat → Bool) : Option (St45 ⊕ Rt45) := some (.inl (.h0 ((0 : Int))))
noncomputable def Te45 (test : Bool → Prop → Prop → Prop) (Kst : KS) (Kret : KR) (aa na ma : Nat) (ta : Nat → Int) (va : Nat → Int) (ga : Nat → Bool) : Prop :=
  Kst (hd Try.f45 0) ([PV.loose (PA.mk (0) (3) aa (0)) na,
 PV.loose (PA.mk (0) (3) aa (0)) na, PV.int IntKind.i64 (↑na : Int),
 PV.int IntKind.i64 (0 : Int)]) ([[(0, false,
 Blk.cols ma [Col.int IntKind.i64 ta, Col.int IntKind.i64 va, Col.bool ga])]]) (1)
set_option maxRecDepth 100000 in
theorem te45 (test : Bool → Prop → Prop → Prop) (Kst : KS) (Kret : KR) (aa na ma : Nat) (ta : Nat → Int) (va : Nat → Int) (ga : Nat → Bool) : run test Try.env true noX true 400 ⟨45, [.cd (mkFn Try.f45).body], argT 0 [.loose ⟨0, 3, aa, 0⟩ na], [[], [(0, (false, .cols ma [.int .i64 ta, .int .i64 va, .bool ga]))]], 1⟩ (proj 1 [0, 6, 7, 8] Kst Kret) =
  Te45 test Kst Kret aa na ma ta va ga := by kernel_rfl
noncomputable def T45_0 (test : Bool → Prop → Prop → Prop) (Kst : KS) (Kret : KR) (aa na ma : Nat) (ta : Nat → Int) (va : Nat → Int) (ga : Nat → Bool) (x0 : Int) : Prop :=
  test (decide (x0 < (↑na : Int)))
 (test (decide ((0 : Int) ≤ x0 ∧ x0 < (↑na : Int)))
 (test (decide (Int.toNat x0 + aa < ma))
 (test (decide (Int.toNat x0 + aa < ma))
 (test (decide (Int.toNat x0 + aa < ma))
 (test (decide (ta (Int.toNat x0 + aa) ≥ (0 : Int)))
 (test (decide (ta (Int.toNat x0 + aa) ≤ (1099511627776 : Int)))
 (test (decide (va (Int.toNat x0 + aa) ≥ (-1099511627776 : Int)))
 (test (decide (va (Int.toNat x0 + aa) ≤ (1099511627776 : Int)))
 (test (false)
 (Kret (PV.int IntKind.i64 (0 : Int)) ([[(0, false,
 Blk.cols ma [Col.int IntKind.i64 ta, Col.int IntKind.i64 va, Col.bool ga])]]) (3))
 (test (decide (x0 > (0 : Int)))
 (test (lim IntKind.i64 (x0 - (1 : Int)))
 (test (decide ((0 : Int) ≤ x0 - (1 : Int) ∧ x0 - (1 : Int) < (↑na : Int)))
 (test (decide (Int.toNat (x0 - (1 : Int)) + aa < ma))
 (test (decide (ta (Int.toNat x0 + aa) < ta (Int.toNat (x0 - (1 : Int)) + aa)))
 (Kret (PV.int IntKind.i64 (15 : Int)) ([[(0, false,
 Blk.cols ma [Col.int IntKind.i64 ta, Col.int IntKind.i64 va, Col.bool ga])]]) (3))
 (test (lim IntKind.i64 (x0 + (1 : Int)))
 (Kst (hd Try.f45 0) ([PV.loose (PA.mk (0) (3) aa (0)) na,
 PV.loose (PA.mk (0) (3) aa (0)) na, PV.int IntKind.i64 (↑na : Int),
 PV.int IntKind.i64 (x0 + (1 : Int))]) ([[(0, false,
 Blk.cols ma [Col.int IntKind.i64 ta, Col.int IntKind.i64 va, Col.bool ga])]]) (3))
 (False)))
 (False))
 (False))
 (False))
 (test (lim IntKind.i64 (x0 + (1 : Int)))
 (Kst (hd Try.f45 0) ([PV.loose (PA.mk (0) (3) aa (0)) na,
 PV.loose (PA.mk (0) (3) aa (0)) na, PV.int IntKind.i64 (↑na : Int),
 PV.int IntKind.i64 (x0 + (1 : Int))]) ([[(0, false,
 Blk.cols ma [Col.int IntKind.i64 ta, Col.int IntKind.i64 va, Col.bool ga])]]) (3))
 (False))))
 (test (true)
 (Kret (PV.int IntKind.i64 (6 : Int)) ([[(0, false,
 Blk.cols ma [Col.int IntKind.i64 ta, Col.int IntKind.i64 va, Col.bool ga])]]) (3))
 (test (decide (x0 > (0 : Int)))
 (test (lim IntKind.i64 (x0 - (1 : Int)))
 (test (decide ((0 : Int) ≤ x0 - (1 : Int) ∧ x0 - (1 : Int) < (↑na : Int)))
 (test (decide (Int.toNat (x0 - (1 : Int)) + aa < ma))
 (test (decide (ta (Int.toNat x0 + aa) < ta (Int.toNat (x0 - (1 : Int)) + aa)))
 (Kret (PV.int IntKind.i64 (15 : Int)) ([[(0, false,
 Blk.cols ma [Col.int IntKind.i64 ta, Col.int IntKind.i64 va, Col.bool ga])]]) (3))
 (test (lim IntKind.i64 (x0 + (1 : Int)))
 (Kst (hd Try.f45 0) ([PV.loose (PA.mk (0) (3) aa (0)) na,
 PV.loose (PA.mk (0) (3) aa (0)) na, PV.int IntKind.i64 (↑na : Int),
 PV.int IntKind.i64 (x0 + (1 : Int))]) ([[(0, false,
 Blk.cols ma [Col.int IntKind.i64 ta, Col.int IntKind.i64 va, Col.bool ga])]]) (3))
 (False)))
 (False))
 (False))
 (False))
 (test (lim IntKind.i64 (x0 + (1 : Int)))
 (Kst (hd Try.f45 0) ([PV.loose (PA.mk (0) (3) aa (0)) na,
 PV.loose (PA.mk (0) (3) aa (0)) na, PV.int IntKind.i64 (↑na : Int),
 PV.int IntKind.i64 (x0 + (1 : Int))]) ([[(0, false,
 Blk.cols ma [Col.int IntKind.i64 ta, Col.int IntKind.i64 va, Col.bool ga])]]) (3))
 (False)))))
 (test (true)
 (Kret (PV.int IntKind.i64 (6 : Int)) ([[(0, false,
 Blk.cols ma [Col.int IntKind.i64 ta, Col.int IntKind.i64 va, Col.bool ga])]]) (3))
 (test (decide (x0 > (0 : Int)))
 (test (lim IntKind.i64 (x0 - (1 : Int)))
 (test (decide ((0 : Int) ≤ x0 - (1 : Int) ∧ x0 - (1 : Int) < (↑na : Int)))
 (test (decide (Int.toNat (x0 - (1 : Int)) + aa < ma))
 (test (decide (ta (Int.toNat x0 + aa) < ta (Int.toNat (x0 - (1 : Int)) + aa)))
 (Kret (PV.int IntKind.i64 (15 : Int)) ([[(0, false,
 Blk.cols ma [Col.int IntKind.i64 ta, Col.int IntKind.i64 va, Col.bool ga])]]) (3))
 (test (lim IntKind.i64 (x0 + (1 : Int)))
 (Kst (hd Try.f45 0) ([PV.loose (PA.mk (0) (3) aa (0)) na,
 PV.loose (PA.mk (0) (3) aa (0)) na, PV.int IntKind.i64 (↑na : Int),
 PV.int IntKind.i64 (x0 + (1 : Int))]) ([[(0, false,
 Blk.cols ma [Col.int IntKind.i64 ta, Col.int IntKind.i64 va, Col.bool ga])]]) (3))
 (False)))
 (False))
 (False))
 (False))
 (test (lim IntKind.i64 (x0 + (1 : Int)))
 (Kst (hd Try.f45 0) ([PV.loose (PA.mk (0) (3) aa (0)) na,
 PV.loose (PA.mk (0) (3) aa (0)) na, PV.int IntKind.i64 (↑na : Int),
 PV.int IntKind.i64 (x0 + (1 : Int))]) ([[(0, false,
 Blk.cols ma [Col.int IntKind.i64 ta, Col.int IntKind.i64 va, Col.bool ga])]]) (3))
 (False)))))
 (test (true)
 (Kret (PV.int IntKind.i64 (6 : Int)) ([[(0, false,
 Blk.cols ma [Col.int IntKind.i64 ta, Col.int IntKind.i64 va, Col.bool ga])]]) (3))
 (test (decide (x0 > (0 : Int)))
 (test (lim IntKind.i64 (x0 - (1 : Int)))
 (test (decide ((0 : Int) ≤ x0 - (1 : Int) ∧ x0 - (1 : Int) < (↑na : Int)))
 (test (decide (Int.toNat (x0 - (1 : Int)) + aa < ma))
 (test (decide (ta (Int.toNat x0 + aa) < ta (Int.toNat (x0 - (1 : Int)) + aa)))
 (Kret (PV.int IntKind.i64 (15 : Int)) ([[(0, false,
 Blk.cols ma [Col.int IntKind.i64 ta, Col.int IntKind.i64 va, Col.bool ga])]]) (3))
 (test (lim IntKind.i64 (x0 + (1 : Int)))
 (Kst (hd Try.f45 0) ([PV.loose (PA.mk (0) (3) aa (0)) na,
 PV.loose (PA.mk (0) (3) aa (0)) na, PV.int IntKind.i64 (↑na : Int),
 PV.int IntKind.i64 (x0 + (1 : Int))]) ([[(0, false,
 Blk.cols ma [Col.int IntKind.i64 ta, Col.int IntKind.i64 va, Col.bool ga])]]) (3))
 (False)))
 (False))
 (False))
 (False))
 (test (lim IntKind.i64 (x0 + (1 : Int)))
 (Kst (hd Try.f45 0) ([PV.loose (PA.mk (0) (3) aa (0)) na,
 PV.loose (PA.mk (0) (3) aa (0)) na, PV.int IntKind.i64 (↑na : Int),
 PV.int IntKind.i64 (x0 + (1 : Int))]) ([[(0, false,
 Blk.cols ma [Col.int IntKind.i64 ta, Col.int IntKind.i64 va, Col.bool ga])]]) (3))
 (False)))))
 (test (true)
 (Kret (PV.int IntKind.i64 (6 : Int)) ([[(0, false,
 Blk.cols ma [Col.int IntKind.i64 ta, Col.int IntKind.i64 va, Col.bool ga])]]) (3))
 (test (decide (x0 > (0 : Int)))
 (test (lim IntKind.i64 (x0 - (1 : Int)))
 (test (decide ((0 : Int) ≤ x0 - (1 : Int) ∧ x0 - (1 : Int) < (↑na : Int)))
 (test (decide (Int.toNat (x0 - (1 : Int)) + aa < ma))
 (test (decide (ta (Int.toNat x0 + aa) < ta (Int.toNat (x0 - (1 : Int)) + aa)))
 (Kret (PV.int IntKind.i64 (15 : Int)) ([[(0, false,
 Blk.cols ma [Col.int IntKind.i64 ta, Col.int IntKind.i64 va, Col.bool ga])]]) (3))
 (test (lim IntKind.i64 (x0 + (1 : Int)))
 (Kst (hd Try.f45 0) ([PV.loose (PA.mk (0) (3) aa (0)) na,
 PV.loose (PA.mk (0) (3) aa (0)) na, PV.int IntKind.i64 (↑na : Int),
 PV.int IntKind.i64 (x0 + (1 : Int))]) ([[(0, false,
 Blk.cols ma [Col.int IntKind.i64 ta, Col.int IntKind.i64 va, Col.bool ga])]]) (3))
 (False)))
 (False))
 (False))
 (False))
 (test (lim IntKind.i64 (x0 + (1 : Int)))
 (Kst (hd Try.f45 0) ([PV.loose (PA.mk (0) (3) aa (0)) na,
 PV.loose (PA.mk (0) (3) aa (0)) na, PV.int IntKind.i64 (↑na : Int),
 PV.int IntKind.i64 (x0 + (1 : Int))]) ([[(0, false,
 Blk.cols ma [Col.int IntKind.i64 ta, Col.int IntKind.i64 va, Col.bool ga])]]) (3))
 (False)))))
 (False))
 (False))
 (False))
 (False))
 (Kret (PV.int IntKind.i64 (0 : Int)) ([[(0, false,
 Blk.cols ma [Col.int IntKind.i64 ta, Col.int IntKind.i64 va, Col.bool ga])]]) (1))
set_option maxRecDepth 100000 in
theorem t45_0 (test : Bool → Prop → Prop → Prop) (Kst : KS) (Kret : KR) (aa na ma : Nat) (ta : Nat → Int) (va : Nat → Int) (ga : Nat → Bool) (x0 : Int) : run test Try.env true noX true 400 ⟨45, hd Try.f45 0, zipT [0, 6, 7, 8] [PV.loose (PA.mk (0) (3) aa (0)) na,
 PV.loose (PA.mk (0) (3) aa (0)) na, PV.int IntKind.i64 (↑na : Int),
 PV.int IntKind.i64 x0], [[], [(0, (false, .cols ma [.int .i64 ta, .int .i64 va, .bool ga]))]], 1⟩ (proj 1 [0, 6, 7, 8] Kst Kret) =
  T45_0 test Kst Kret aa na ma ta va ga x0 := by kernel_rfl
set_option maxRecDepth 100000 in
theorem be45 (aa na ma : Nat) (ta : Nat → Int) (va : Nat → Int) (ga : Nat → Bool) (Kst : KS) (Kret : KR) (x : St45 ⊕ Rt45) (hS : HS 1 400 ((I45 aa na ma ta va ga)) Kst x) (hR : HR 1 400 ((V45 aa na ma ta va ga)) (fun r => [newL (1 + 1) ((N45 aa na ma ta va ga) r) ++ [(0, (false, .cols ma [.int .i64 ta, .int .i64 va, .bool ga]))]]) Kret x) (h : (some (.inl (.h0 ((0 : Int)))) : Option (St45 ⊕ Rt45)) = some x) : Te45 cond Kst Kret aa na ma ta va ga := by
  unfold Te45
  exact stop_at hS _ h (fun n => n) rfl rfl rfl ⟨(rn_loose (use_lo rfl) rfl rfl rfl), ⟨(rn_loose (use_lo rfl) rfl rfl rfl), ⟨(rn_int rfl), ⟨(rn_int rfl), trivial⟩⟩⟩⟩ rfl (entl_bor (use_lo rfl) rfl rfl entl_nil)
set_option maxRecDepth 100000 in
theorem b45_0 (aa na ma : Nat) (ta : Nat → Int) (va : Nat → Int) (ga : Nat → Bool) (Kst : KS) (Kret : KR) (x : St45 ⊕ Rt45) (hS : HS 1 400 ((I45 aa na ma ta va ga)) Kst x) (hR : HR 1 400 ((V45 aa na ma ta va ga)) (fun r => [newL (1 + 1) ((N45 aa na ma ta va ga) r) ++ [(0, (false, .cols ma [.int .i64 ta, .int .i64 va, .bool ga]))]]) Kret x) (x0 : Int) (h : (bif (decide (x0 < (↑na : Int)))
 then (bif (decide ((0 : Int) ≤ x0 ∧ x0 < (↑na : Int)))
 then (bif (decide (Int.toNat x0 + aa < ma))
 then (bif (decide (ta (Int.toNat x0 + aa) ≥ (0 : Int)))
 then (bif (decide (ta (Int.toNat x0 + aa) ≤ (1099511627776 : Int)))
 then (bif (decide (va (Int.toNat x0 + aa) ≥ (-1099511627776 : Int)))
 then (bif (decide (va (Int.toNat x0 + aa) ≤ (1099511627776 : Int)))
 then (bif (decide (x0 > (0 : Int)))
 then (bif (lim IntKind.i64 (x0 - (1 : Int)))
 then (bif (decide ((0 : Int) ≤ x0 - (1 : Int) ∧ x0 - (1 : Int) < (↑na : Int)))
 then (bif (decide (Int.toNat (x0 - (1 : Int)) + aa < ma))
 then (bif (decide (ta (Int.toNat x0 + aa) < ta (Int.toNat (x0 - (1 : Int)) + aa)))
 then (some (.inr ((15 : Int))))
 else (bif (lim IntKind.i64 (x0 + (1 : Int)))
 then (some (.inl (.h0 (x0 + (1 : Int)))))
 else (none)))
 else (none))
 else (none))
 else (none))
 else (bif (lim IntKind.i64 (x0 + (1 : Int)))
 then (some (.inl (.h0 (x0 + (1 : Int)))))
 else (none)))
 else (some (.inr ((6 : Int)))))
 else (some (.inr ((6 : Int)))))
 else (some (.inr ((6 : Int)))))
 else (some (.inr ((6 : Int)))))
 else (none))
 else (none))
 else (some (.inr ((0 : Int)))) : Option (St45 ⊕ Rt45)) = some x) : T45_0 cond Kst Kret aa na ma ta va ga x0 := by
  unfold T45_0
  exact bif_split h
   (fun c0 h => bif_split h
   (fun c1 h => bif_split h
   (fun c2 h => cond_yes c2 (cond_yes c2 (bif_split h
   (fun c3 h => bif_split h
   (fun c4 h => bif_split h
   (fun c5 h => bif_split h
   (fun c6 h => cond_no rfl (bif_split h
   (fun c7 h => bif_split h
   (fun c8 h => bif_split h
   (fun c9 h => bif_split h
   (fun c10 h => bif_split h
   (fun c11 h => ret_at hR _ h (fun n => n) rfl rfl rfl (rn_int rfl) rfl (entl_bor (use_lo rfl) rfl rfl entl_nil))
   (fun c11 h => bif_split h
   (fun c12 h => stop_at hS _ h (fun n => n) rfl rfl rfl ⟨(rn_loose (use_lo rfl) rfl rfl rfl), ⟨(rn_loose (use_lo rfl) rfl rfl rfl), ⟨(rn_int rfl), ⟨(rn_int rfl), trivial⟩⟩⟩⟩ rfl (entl_bor (use_lo rfl) rfl rfl entl_nil))
   (fun c12 h => no_some h)))
   (fun c10 h => no_some h))
   (fun c9 h => no_some h))
   (fun c8 h => no_some h))
   (fun c7 h => bif_split h
   (fun c8 h => stop_at hS _ h (fun n => n) rfl rfl rfl ⟨(rn_loose (use_lo rfl) rfl rfl rfl), ⟨(rn_loose (use_lo rfl) rfl rfl rfl), ⟨(rn_int rfl), ⟨(rn_int rfl), trivial⟩⟩⟩⟩ rfl (entl_bor (use_lo rfl) rfl rfl entl_nil))
   (fun c8 h => no_some h))))
   (fun c6 h => cond_yes rfl (ret_at hR _ h (fun n => n) rfl rfl rfl (rn_int rfl) rfl (entl_bor (use_lo rfl) rfl rfl entl_nil))))
   (fun c5 h => cond_yes rfl (ret_at hR _ h (fun n => n) rfl rfl rfl (rn_int rfl) rfl (entl_bor (use_lo rfl) rfl rfl entl_nil))))
   (fun c4 h => cond_yes rfl (ret_at hR _ h (fun n => n) rfl rfl rfl (rn_int rfl) rfl (entl_bor (use_lo rfl) rfl rfl entl_nil))))
   (fun c3 h => cond_yes rfl (ret_at hR _ h (fun n => n) rfl rfl rfl (rn_int rfl) rfl (entl_bor (use_lo rfl) rfl rfl entl_nil))))))
   (fun c2 h => no_some h))
   (fun c1 h => no_some h))
   (fun c0 h => ret_at hR _ h (fun n => n) rfl rfl rfl (rn_int rfl) rfl (entl_bor (use_lo rfl) rfl rfl entl_nil))
theorem a45 (aa na ma : Nat) (ta : Nat → Int) (va : Nat → Int) (ga : Nat → Bool) {r : Rt45} (h : Goes ((q45 aa na ma ta va ga)) ((p45 aa na ma ta va ga)) r) : CallR Try.prog 45 [.loose ⟨0, 3, aa, 0⟩ na] [[(0, (false, .cols ma [.int .i64 ta, .int .i64 va, .bool ga]))]] 1 ((V45 aa na ma ta va ga) r) ((fun r => [newL (1 + 1) ((N45 aa na ma ta va ga) r) ++ [(0, (false, .cols ma [.int .i64 ta, .int .i64 va, .bool ga]))]]) r) 400 ∧ ∃ F, Try.prog.funcs[45]? = some F ∧ F.body.isSome = true ∧ (F.name == "runtime.NumGoroutine") = false := by
  refine dec_calls (f := 45) (lo := 1) (hi := 400) (H := [[(0, (false, .cols ma [.int .i64 ta, .int .i64 va, .bool ga]))]]) (args := [.loose ⟨0, 3, aa, 0⟩ na]) Try.envOk Try.mixed noX_ok ((I45 aa na ma ta va ga)) ((V45 aa na ma ta va ga)) (fun r => [newL (1 + 1) ((N45 aa na ma ta va ga) r) ++ [(0, (false, .cols ma [.int .i64 ta, .int .i64 va, .bool ga]))]]) (fn := mkFn Try.f45) (ts := [0, 6, 7, 8]) (n := 400) rfl (by decide) (by simp) (names_of rfl) ?_ ?_ ?_ h
  · intro s; cases s <;> exact ⟨hd_ok _ _, by simp [I45], names_of rfl, Nat.le_of_ble_eq_true rfl⟩
  · intro Kst Kret x hS hR h
    exact Holds.eq (te45 cond Kst Kret aa na ma ta va ga) (be45 aa na ma ta va ga Kst Kret x hS hR h)
  · intro Kst Kret x hS hR s h
    cases s with
    | h0 x0 => exact Holds.eq (t45_0 cond Kst Kret aa na ma ta va ga x0) (b45_0 aa na ma ta va ga Kst Kret x hS hR x0 h)
noncomputable def k45 : Con := ⟨45, [.one (.list [.int .i64, .int .i64, .bool])], fun (x : (Nat × Nat × Nat × (Nat → Int) × (Nat → Int) × (Nat → Bool) × Unit) × Unit) => (fun (aa na ma : Nat) (ta : Nat → Int) (va : Nat → Int) (ga : Nat → Bool) => decide (aa + na ≤ ma ∧ na ≤ 1000000)) x.1.1 x.1.2.1 x.1.2.2.1 x.1.2.2.2.1 x.1.2.2.2.2.1 x.1.2.2.2.2.2.1, fun (x : (Nat × Nat × Nat × (Nat → Int) × (Nat → Int) × (Nat → Bool) × Unit) × Unit) => (fun (aa na ma : Nat) (ta : Nat → Int) (va : Nat → Int) (ga : Nat → Bool) => (V45 aa na ma ta va ga) (S.errS (fun j => ta (j + aa)) (fun j => va (j + aa)) 0 na)) x.1.1 x.1.2.1 x.1.2.2.1 x.1.2.2.2.1 x.1.2.2.2.2.1 x.1.2.2.2.2.2.1, fun (x : (Nat × Nat × Nat × (Nat → Int) × (Nat → Int) × (Nat → Bool) × Unit) × Unit) => (fun (aa na ma : Nat) (ta : Nat → Int) (va : Nat → Int) (ga : Nat → Bool) => (N45 aa na ma ta va ga) (S.errS (fun j => ta (j + aa)) (fun j => va (j + aa)) 0 na)) x.1.1 x.1.2.1 x.1.2.2.1 x.1.2.2.2.1 x.1.2.2.2.2.1 x.1.2.2.2.2.2.1, fun _ _ => .dead⟩
theorem s45' (aa na ma : Nat) (ta : Nat → Int) (va : Nat → Int) (ga : Nat → Bool) (hp : aa + na ≤ ma ∧ na ≤ 1000000) : ∀ k i : Nat, i + k = na → Comes (q45 aa na ma ta va ga) (.h0 (i : Int)) (S.errS (fun j => ta (j + aa)) (fun j => va (j + aa)) i k) := by
  obtain ⟨hp1, hp2⟩ := hp
  intro k
  induction k with
  | zero =>
    intro i hi
    apply Comes.of
    show Goes _ _ _
    (first | rw [q45] | unfold q45)
    repeat' first
      | with_reducible refine goes_if (fun h => ?_) (fun h => ?_) <;> (try simp only [lim64, decide_eq_true_eq, decide_eq_false_iff_not, Int.toNat_natCast, toNat_pred, toNat_succ, Option.getD_some, Option.getD_none, Bool.not_eq_true', Bool.not_eq_false', Bool.and_eq_true, Bool.or_eq_true, Bool.and_eq_false_iff, Bool.or_eq_false_iff, bne_iff_ne, beq_iff_eq, bne_eq_false_iff_eq, beq_eq_false_iff_ne, ne_eq, not_and, Int.not_le, Int.not_lt, ge_iff_le, gt_iff_lt, Nat.not_lt, Nat.not_le, Bool.not_eq_true, Bool.not_eq_false, Bool.true_eq_false, Bool.false_eq_true, not_false_eq_true, not_true_eq_false] at h)
      | exact goes_none.mpr (by omega)
    all_goals first | (exfalso; omega) | rfl
  | succ k ih =>
    intro i hi
    have ih := ih (i + 1) (by omega)
    have e1 : 0 < i → ((i : Int) - 1).toNat = i - 1 := fun _ => by omega
    apply Comes.of
    show Goes _ _ _
    (first | rw [q45] | unfold q45)
    repeat' first
      | with_reducible refine goes_if (fun h => ?_) (fun h => ?_) <;> (try simp only [lim64, decide_eq_true_eq, decide_eq_false_iff_not, Int.toNat_natCast, toNat_pred, toNat_succ, Option.getD_some, Option.getD_none, Bool.not_eq_true', Bool.not_eq_false', Bool.and_eq_true, Bool.or_eq_true, Bool.and_eq_false_iff, Bool.or_eq_false_iff, bne_iff_ne, beq_iff_eq, bne_eq_false_iff_eq, beq_eq_false_iff_ne, ne_eq, not_and, Int.not_le, Int.not_lt, ge_iff_le, gt_iff_lt, Nat.not_lt, Nat.not_le, Bool.not_eq_true, Bool.not_eq_false, Bool.true_eq_false, Bool.false_eq_true, not_false_eq_true, not_true_eq_false] at h)
      | exact goes_none.mpr (by omega)
    all_goals first | (exfalso; omega) | (refine Eq.mpr (congrArg (Comes _ _) ?_) ih; simp only [S.errS, S.okS, decide_eq_true_eq]; (try rw [e1 (by omega)] at *); (repeat' split) <;> first | omega | rfl) | (refine goes_inr.mpr ?_; simp only [S.errS, S.okS, decide_eq_true_eq]; (try rw [e1 (by omega)] at *); (repeat' split) <;> first | omega | rfl)
theorem s45 (aa na ma : Nat) (ta : Nat → Int) (va : Nat → Int) (ga : Nat → Bool) (hp : aa + na ≤ ma ∧ na ≤ 1000000) : Goes ((q45 aa na ma ta va ga)) ((p45 aa na ma ta va ga)) (S.errS (fun j => ta (j + aa)) (fun j => va (j + aa)) 0 na) := by
  exact s45' aa na ma ta va ga hp na 0 (by omega)
theorem k45_ok : k45.ok Try.prog := by
  intro x hx
  obtain ⟨⟨aa, na, ma, ta, va, ga, _⟩, _⟩ := x
  obtain ⟨h1, h2⟩ := a45 aa na ma ta va ga (s45 aa na ma ta va ga (of_dec hx rfl))
  exact ⟨⟨400, (by decide : 1 + 1 + 0 ≤ 400), h1⟩, h2⟩
inductive St46 where
  | h0 (x0 : Int)
abbrev Rt46 := Int
noncomputable def V46 (aa na ma : Nat) (ta : Nat → Int) (va : Nat → Int) (ga : Nat → Bool) (r : Rt46) : PV := PV.int IntKind.i64 r
noncomputable def N46 (aa na ma : Nat) (ta : Nat → Int) (va : Nat → Int) (ga : Nat → Bool) (r : Rt46) : List Blk := []
noncomputable def I46 (aa na ma : Nat) (ta : Nat → Int) (va : Nat → Int) (ga : Nat → Bool) : St46 → Hd
  | .h0 x0 => ⟨hd Try.f46 0, [PV.loose (PA.mk (0) (3) aa (0)) na, PV.int IntKind.i64 x0], [[], [(0, (false, .cols ma [.int .i64 ta, .int .i64 va, .bool ga]))]], 1⟩
noncomputable def q46 (aa na ma : Nat) (ta : Nat → Int) (va : Nat → Int) (ga : Nat → Bool) : St46 → Option (St46 ⊕ Rt46)
  | .h0 x0 => bif (decide (x0 < (↑na : Int)))
 then (bif (decide ((0 : Int) ≤ x0 ∧ x0 < (↑na : Int)))
 then (bif (decide (Int.toNat x0 + aa < ma))
 then (bif (decide (ta (Int.toNat x0 + aa) ≥ (0 : Int)))
 then (bif (decide (ta (Int.toNat x0 + aa) ≤ (1099511627776 : Int)))
 then (bif (decide (va (Int.toNat x0 + aa) ≥ (-1099511627776 : Int)))
 then (bif (decide (va (Int.toNat x0 + aa) ≤ (1099511627776 : Int)))
 then (bif (decide (x0 > (0 : Int)))
 then (bif (lim IntKind.i64 (x0 - (1 : Int)))
 then (bif (decide ((0 : Int) ≤ x0 - (1 : Int) ∧ x0 - (1 : Int) < (↑na : Int)))
 then (bif (decide (Int.toNat (x0 - (1 : Int)) + aa < ma))
 then (bif (decide (ta (Int.toNat x0 + aa) < ta (Int.toNat (x0 - (1 : Int)) + aa)))
 then (some (.inr ((15 : Int))))
 else (bif (lim IntKind.i64 (x0 + (1 : Int)))
 then (some (.inl (.h0 (x0 + (1 : Int)))))
 else (none)))
 else (none))
 else (none))
 else (none))
 else (bif (lim IntKind.i64 (x0 + (1 : Int)))
 then (some (.inl (.h0 (x0 + (1 : Int)))))
 else (none)))
 else (some (.inr ((6 : Int)))))
 else (some (.inr ((6 : Int)))))
 else (some (.inr ((6 : Int)))))
 else (some (.inr ((6 : Int)))))
 else (none))
 else (none))
 else (some (.inr ((0 : Int))))
noncomputable def p46 (aa na ma : Nat) (ta : Nat → Int) (va : Nat → Int) (ga : Nat → Bool) : Option (St46 ⊕ Rt46) := some (.inl (.h0 ((0 : Int))))
noncomputable def Te46 (test : Bool → Prop → Prop → Prop) (Kst : KS) (Kret : KR) (aa na ma : Nat) (ta : Nat → Int) (va : Nat → Int) (ga : Nat → Bool) : Prop :=
  Kst (hd Try.f46 0) ([PV.loose (PA.mk (0) (3) aa (0)) na, PV.int IntKind.i64 (0 : Int)]) ([[(0, false,
 Blk.cols ma [Col.int IntKind.i64 ta, Col.int IntKind.i64 va, Col.bool ga])]]) (1)
set_option maxRecDepth 100000 in
theorem te46 (test : Bool → Prop → Prop → Prop) (Kst : KS) (Kret : KR) (aa na ma : Nat) (ta : Nat → Int) (va : Nat → Int) (ga : Nat → Bool) : run test Try.env true noX true 400 ⟨46, [.cd (mkFn Try.f46).body], argT 0 [.loose ⟨0, 3, aa, 0⟩ na], [[], [(0, (false, .cols ma [.int .i64 ta, .int .i64 va, .bool ga]))]], 1⟩ (proj 1 [0, 3] Kst Kret) =
  Te46 test Kst Kret aa na ma ta va ga := by kernel_rfl
noncomputable def T46_0 (test : Bool → Prop → Prop → Prop) (Kst : KS) (Kret : KR) (aa na ma : Nat) (ta : Nat → Int) (va : Nat → Int) (ga : Nat → Bool) (x0 : Int) : Prop :=
  test (decide (x0 < (↑na : Int)))
 (test (decide ((0 : Int) ≤ x0 ∧ x0 < (↑na : Int)))
 (test (decide (Int.toNat x0 + aa < ma))
 (test (decide (Int.toNat x0 + aa < ma))
 (test (decide (Int.toNat x0 + aa < ma))
 (test (decide (ta (Int.toNat x0 + aa) ≥ (0 : Int)))
 (test (decide (ta (Int.toNat x0 + aa) ≤ (1099511627776 : Int)))
 (test (decide (va (Int.toNat x0 + aa) ≥ (-1099511627776 : Int)))
 (test (decide (va (Int.toNat x0 + aa) ≤ (1099511627776 : Int)))
 (test (decide (x0 > (0 : Int)))
 (test (decide ((0 : Int) ≤ x0 ∧ x0 < (↑na : Int)))
 (test (decide (Int.toNat x0 + aa < ma))
 (test (lim IntKind.i64 (x0 - (1 : Int)))
 (test (decide ((0 : Int) ≤ x0 - (1 : Int) ∧ x0 - (1 : Int) < (↑na : Int)))
 (test (decide (Int.toNat (x0 - (1 : Int)) + aa < ma))
 (test (decide (ta (Int.toNat x0 + aa) < ta (Int.toNat (x0 - (1 : Int)) + aa)))
 (Kret (PV.int IntKind.i64 (15 : Int)) ([[(0, false,
 Blk.cols ma [Col.int IntKind.i64 ta, Col.int IntKind.i64 va, Col.bool ga])]]) (2))
 (test (lim IntKind.i64 (x0 + (1 : Int)))
 (Kst (hd Try.f46 0) ([PV.loose (PA.mk (0) (3) aa (0)) na, PV.int IntKind.i64 (x0 + (1 : Int))]) ([[(0, false,
 Blk.cols ma [Col.int IntKind.i64 ta, Col.int IntKind.i64 va, Col.bool ga])]]) (2))
 (False)))
 (False))
 (False))
 (False))
 (False))
 (False))
 (test (lim IntKind.i64 (x0 + (1 : Int)))
 (Kst (hd Try.f46 0) ([PV.loose (PA.mk (0) (3) aa (0)) na, PV.int IntKind.i64 (x0 + (1 : Int))]) ([[(0, false,
 Blk.cols ma [Col.int IntKind.i64 ta, Col.int IntKind.i64 va, Col.bool ga])]]) (2))
 (False)))
 (Kret (PV.int IntKind.i64 (6 : Int)) ([[(0, false,
 Blk.cols ma [Col.int IntKind.i64 ta, Col.int IntKind.i64 va, Col.bool ga])]]) (2)))
 (Kret (PV.int IntKind.i64 (6 : Int)) ([[(0, false,
 Blk.cols ma [Col.int IntKind.i64 ta, Col.int IntKind.i64 va, Col.bool ga])]]) (2)))
 (Kret (PV.int IntKind.i64 (6 : Int)) ([[(0, false,
 Blk.cols ma [Col.int IntKind.i64 ta, Col.int IntKind.i64 va, Col.bool ga])]]) (2)))
 (Kret (PV.int IntKind.i64 (6 : Int)) ([[(0, false,
 Blk.cols ma [Col.int IntKind.i64 ta, Col.int IntKind.i64 va, Col.bool ga])]]) (2)))
 (False))
 (False))
 (False))
 (False))
 (Kret (PV.int IntKind.i64 (0 : Int)) ([[(0, false,
 Blk.cols ma [Col.int IntKind.i64 ta, Col.int IntKind.i64 va, Col.bool ga])]]) (1))
set_option maxRecDepth 100000 in
theorem t46_0 (test : Bool → Prop → Prop → Prop) (Kst : KS) (Kret : KR) (aa na ma : Nat) (ta : Nat → Int) (va : Nat → Int) (ga : Nat → Bool) (x0 : Int) : run test Try.env true noX true 400 ⟨46, hd Try.f46 0, zipT [0, 3] [PV.loose (PA.mk (0) (3) aa (0)) na, PV.int IntKind.i64 x0], [[], [(0, (false, .cols ma [.int .i64 ta, .int .i64 va, .bool ga]))]], 1⟩ (proj 1 [0, 3] Kst Kret) =
  T46_0 test Kst Kret aa na ma ta va ga x0 := by kernel_rfl
set_option maxRecDepth 100000 in
theorem be46 (aa na ma : Nat) (ta : Nat → Int) (va : Nat → Int) (ga : Nat → Bool) (Kst : KS) (Kret : KR) (x : St46 ⊕ Rt46) (hS : HS 1 400 ((I46 aa na ma ta va ga)) Kst x) (hR : HR 1 400 ((V46 aa na ma ta va ga)) (fun r => [newL (1 + 1) ((N46 aa na ma ta va ga) r) ++ [(0, (false, .cols ma [.int .i64 ta, .int .i64 va, .bool ga]))]]) Kret x) (h : (some (.inl (.h0 ((0 : Int)))) : Option (St46 ⊕ Rt46)) = some x) : Te46 cond Kst Kret aa na ma ta va ga := by
  unfold Te46
  exact stop_at hS _ h (fun n => n) rfl rfl rfl ⟨(rn_loose (use_lo rfl) rfl rfl rfl), ⟨(rn_int rfl), trivial⟩⟩ rfl (entl_bor (use_lo rfl) rfl rfl entl_nil)
set_option maxRecDepth 100000 in
theorem b46_0 (aa na ma : Nat) (ta : Nat → Int) (va : Nat → Int) (ga : Nat → Bool) (Kst : KS) (Kret : KR) (x : St46 ⊕ Rt46) (hS : HS 1 400 ((I46 aa na ma ta va ga)) Kst x) (hR : HR 1 400 ((V46 aa na ma ta va ga)) (fun r => [newL (1 + 1) ((N46 aa na ma ta va ga) r) ++ [(0, (false, .cols ma [.int .i64 ta, .int .i64 va, .bool ga]))]]) Kret x) (x0 : Int) (h : (bif (decide (x0 < (↑na : Int)))
 then (bif (decide ((0 : Int) ≤ x0 ∧ x0 < (↑na : Int)))
 then (bif (decide (Int.toNat x0 + aa < ma))
 then (bif (decide (ta (Int.toNat x0 + aa) ≥ (0 : Int)))
 then (bif (decide (ta (Int.toNat x0 + aa) ≤ (1099511627776 : Int)))
 then (bif (decide (va (Int.toNat x0 + aa) ≥ (-1099511627776 : Int)))
 then (bif (decide (va (Int.toNat x0 + aa) ≤ (1099511627776 : Int)))
 then (bif (decide (x0 > (0 : Int)))
 then (bif (lim IntKind.i64 (x0 - (1 : Int)))
 then (bif (decide ((0 : Int) ≤ x0 - (1 : Int) ∧ x0 - (1 : Int) < (↑na : Int)))
 then (bif (decide (Int.toNat (x0 - (1 : Int)) + aa < ma))
 then (bif (decide (ta (Int.toNat x0 + aa) < ta (Int.toNat (x0 - (1 : Int)) + aa)))
 then (some (.inr ((15 : Int))))
 else (bif (lim IntKind.i64 (x0 + (1 : Int)))
 then (some (.inl (.h0 (x0 + (1 : Int)))))
 else (none)))
 else (none))
 else (none))
 else (none))
 else (bif (lim IntKind.i64 (x0 + (1 : Int)))
 then (some (.inl (.h0 (x0 + (1 : Int)))))
 else (none)))
 else (some (.inr ((6 : Int)))))
 else (some (.inr ((6 : Int)))))
 else (some (.inr ((6 : Int)))))
 else (some (.inr ((6 : Int)))))
 else (none))
 else (none))
 else (some (.inr ((0 : Int)))) : Option (St46 ⊕ Rt46)) = some x) : T46_0 cond Kst Kret aa na ma ta va ga x0 := by
  unfold T46_0
  exact bif_split h
   (fun c0 h => bif_split h
   (fun c1 h => bif_split h
   (fun c2 h => cond_yes c2 (cond_yes c2 (bif_split h
   (fun c3 h => bif_split h
   (fun c4 h => bif_split h
   (fun c5 h => bif_split h
   (fun c6 h => bif_split h
   (fun c7 h => cond_yes c1 (cond_yes c2 (bif_split h
   (fun c8 h => bif_split h
   (fun c9 h => bif_split h
   (fun c10 h => bif_split h
   (fun c11 h => ret_at hR _ h (fun n => n) rfl rfl rfl (rn_int rfl) rfl (entl_bor (use_lo rfl) rfl rfl entl_nil))
   (fun c11 h => bif_split h
   (fun c12 h => stop_at hS _ h (fun n => n) rfl rfl rfl ⟨(rn_loose (use_lo rfl) rfl rfl rfl), ⟨(rn_int rfl), trivial⟩⟩ rfl (entl_bor (use_lo rfl) rfl rfl entl_nil))
   (fun c12 h => no_some h)))
   (fun c10 h => no_some h))
   (fun c9 h => no_some h))
   (fun c8 h => no_some h))))
   (fun c7 h => bif_split h
   (fun c8 h => stop_at hS _ h (fun n => n) rfl rfl rfl ⟨(rn_loose (use_lo rfl) rfl rfl rfl), ⟨(rn_int rfl), trivial⟩⟩ rfl (entl_bor (use_lo rfl) rfl rfl entl_nil))
   (fun c8 h => no_some h)))
   (fun c6 h => ret_at hR _ h (fun n => n) rfl rfl rfl (rn_int rfl) rfl (entl_bor (use_lo rfl) rfl rfl entl_nil)))
   (fun c5 h => ret_at hR _ h (fun n => n) rfl rfl rfl (rn_int rfl) rfl (entl_bor (use_lo rfl) rfl rfl entl_nil)))
   (fun c4 h => ret_at hR _ h (fun n => n) rfl rfl rfl (rn_int rfl) rfl (entl_bor (use_lo rfl) rfl rfl entl_nil)))
   (fun c3 h => ret_at hR _ h (fun n => n) rfl rfl rfl (rn_int rfl) rfl (entl_bor (use_lo rfl) rfl rfl entl_nil)))))
   (fun c2 h => no_some h))
   (fun c1 h => no_some h))
   (fun c0 h => ret_at hR _ h (fun n => n) rfl rfl rfl (rn_int rfl) rfl (entl_bor (use_lo rfl) rfl rfl entl_nil))
theorem a46 (aa na ma : Nat) (ta : Nat → Int) (va : Nat → Int) (ga : Nat → Bool) {r : Rt46} (h : Goes ((q46 aa na ma ta va ga)) ((p46 aa na ma ta va ga)) r) : CallR Try.prog 46 [.loose ⟨0, 3, aa, 0⟩ na] [[(0, (false, .cols ma [.int .i64 ta, .int .i64 va, .bool ga]))]] 1 ((V46 aa na ma ta va ga) r) ((fun r => [newL (1 + 1) ((N46 aa na ma ta va ga) r) ++ [(0, (false, .cols ma [.int .i64 ta, .int .i64 va, .bool ga]))]]) r) 400 ∧ ∃ F, Try.prog.funcs[46]? = some F ∧ F.body.isSome = true ∧ (F.name == "runtime.NumGoroutine") = false := by
  refine dec_calls (f := 46) (lo := 1) (hi := 400) (H := [[(0, (false, .cols ma [.int .i64 ta, .int .i64 va, .bool ga]))]]) (args := [.loose ⟨0, 3, aa, 0⟩ na]) Try.envOk Try.mixed noX_ok ((I46 aa na ma ta va ga)) ((V46 aa na ma ta va ga)) (fun r => [newL (1 + 1) ((N46 aa na ma ta va ga) r) ++ [(0, (false, .cols ma [.int .i64 ta, .int .i64 va, .bool ga]))]]) (fn := mkFn Try.f46) (ts := [0, 3]) (n := 400) rfl (by decide) (by simp) (names_of rfl) ?_ ?_ ?_ h
  · intro s; cases s <;> exact ⟨hd_ok _ _, by simp [I46], names_of rfl, Nat.le_of_ble_eq_true rfl⟩
  · intro Kst Kret x hS hR h
    exact Holds.eq (te46 cond Kst Kret aa na ma ta va ga) (be46 aa na ma ta va ga Kst Kret x hS hR h)
  · intro Kst Kret x hS hR s h
    cases s with
    | h0 x0 => exact Holds.eq (t46_0 cond Kst Kret aa na ma ta va ga x0) (b46_0 aa na ma ta va ga Kst Kret x hS hR x0 h)
noncomputable def k46 : Con := ⟨46, [.one (.list [.int .i64, .int .i64, .bool])], fun (x : (Nat × Nat × Nat × (Nat → Int) × (Nat → Int) × (Nat → Bool) × Unit) × Unit) => (fun (aa na ma : Nat) (ta : Nat → Int) (va : Nat → Int) (ga : Nat → Bool) => decide (aa + na ≤ ma ∧ na ≤ 1000000)) x.1.1 x.1.2.1 x.1.2.2.1 x.1.2.2.2.1 x.1.2.2.2.2.1 x.1.2.2.2.2.2.1, fun (x : (Nat × Nat × Nat × (Nat → Int) × (Nat → Int) × (Nat → Bool) × Unit) × Unit) => (fun (aa na ma : Nat) (ta : Nat → Int) (va : Nat → Int) (ga : Nat → Bool) => (V46 aa na ma ta va ga) (S.errS (fun j => ta (j + aa)) (fun j => va (j + aa)) 0 na)) x.1.1 x.1.2.1 x.1.2.2.1 x.1.2.2.2.1 x.1.2.2.2.2.1 x.1.2.2.2.2.2.1, fun (x : (Nat × Nat × Nat × (Nat → Int) × (Nat → Int) × (Nat → Bool) × Unit) × Unit) => (fun (aa na ma : Nat) (ta : Nat → Int) (va : Nat → Int) (ga : Nat → Bool) => (N46 aa na ma ta va ga) (S.errS (fun j => ta (j + aa)) (fun j => va (j + aa)) 0 na)) x.1.1 x.1.2.1 x.1.2.2.1 x.1.2.2.2.1 x.1.2.2.2.2.1 x.1.2.2.2.2.2.1, fun _ _ => .dead⟩
theorem s46' (aa na ma : Nat) (ta : Nat → Int) (va : Nat → Int) (ga : Nat → Bool) (hp : aa + na ≤ ma ∧ na ≤ 1000000) : ∀ k i : Nat, i + k = na → Comes (q46 aa na ma ta va ga) (.h0 (i : Int)) (S.errS (fun j => ta (j + aa)) (fun j => va (j + aa)) i k) := by
  obtain ⟨hp1, hp2⟩ := hp
  intro k
  induction k with
  | zero =>
    intro i hi
    apply Comes.of
    show Goes _ _ _
    (first | rw [q46] | unfold q46)
    repeat' first
      | with_reducible refine goes_if (fun h => ?_) (fun h => ?_) <;> (try simp only [lim64, decide_eq_true_eq, decide_eq_false_iff_not, Int.toNat_natCast, toNat_pred, toNat_succ, Option.getD_some, Option.getD_none, Bool.not_eq_true', Bool.not_eq_false', Bool.and_eq_true, Bool.or_eq_true, Bool.and_eq_false_iff, Bool.or_eq_false_iff, bne_iff_ne, beq_iff_eq, bne_eq_false_iff_eq, beq_eq_false_iff_ne, ne_eq, not_and, Int.not_le, Int.not_lt, ge_iff_le, gt_iff_lt, Nat.not_lt, Nat.not_le, Bool.not_eq_true, Bool.not_eq_false, Bool.true_eq_false, Bool.false_eq_true, not_false_eq_true, not_true_eq_false] at h)
      | exact goes_none.mpr (by omega)
    all_goals first | (exfalso; omega) | rfl
  | succ k ih =>
    intro i hi
    have ih := ih (i + 1) (by omega)
    have e1 : 0 < i → ((i : Int) - 1).toNat = i - 1 := fun _ => by omega
    apply Comes.of
    show Goes _ _ _
    (first | rw [q46] | unfold q46)
    repeat' first
      | with_reducible refine goes_if (fun h => ?_) (fun h => ?_) <;> (try simp only [lim64, decide_eq_true_eq, decide_eq_false_iff_not, Int.toNat_natCast, toNat_pred, toNat_succ, Option.getD_some, Option.getD_none, Bool.not_eq_true', Bool.not_eq_false', Bool.and_eq_true, Bool.or_eq_true, Bool.and_eq_false_iff, Bool.or_eq_false_iff, bne_iff_ne, beq_iff_eq, bne_eq_false_iff_eq, beq_eq_false_iff_ne, ne_eq, not_and, Int.not_le, Int.not_lt, ge_iff_le, gt_iff_lt, Nat.not_lt, Nat.not_le, Bool.not_eq_true, Bool.not_eq_false, Bool.true_eq_false, Bool.false_eq_true, not_false_eq_true, not_true_eq_false] at h)
      | exact goes_none.mpr (by omega)
    all_goals first | (exfalso; omega) | (refine Eq.mpr (congrArg (Comes _ _) ?_) ih; simp only [S.errS, S.okS, decide_eq_true_eq]; (try rw [e1 (by omega)] at *); (repeat' split) <;> first | omega | rfl) | (refine goes_inr.mpr ?_; simp only [S.errS, S.okS, decide_eq_true_eq]; (try rw [e1 (by omega)] at *); (repeat' split) <;> first | omega | rfl)
theorem s46 (aa na ma : Nat) (ta : Nat → Int) (va : Nat → Int) (ga : Nat → Bool) (hp : aa + na ≤ ma ∧ na ≤ 1000000) : Goes ((q46 aa na ma ta va ga)) ((p46 aa na ma ta va ga)) (S.errS (fun j => ta (j + aa)) (fun j => va (j + aa)) 0 na) := by
  exact s46' aa na ma ta va ga hp na 0 (by omega)
theorem k46_ok : k46.ok Try.prog := by
  intro x hx
  obtain ⟨⟨aa, na, ma, ta, va, ga, _⟩, _⟩ := x
  obtain ⟨h1, h2⟩ := a46 aa na ma ta va ga (s46 aa na ma ta va ga (of_dec hx rfl))
  exact ⟨⟨400, (by decide : 1 + 1 + 0 ≤ 400), h1⟩, h2⟩

end Go.Ev
