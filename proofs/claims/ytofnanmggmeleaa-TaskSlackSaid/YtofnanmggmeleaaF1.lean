/-
  Few.
-/
import Derived.Test.YtofnanmggmeleaaT0
namespace Go.Ev
open Go.Proofs
set_option linter.unusedVariables false
set_option linter.unusedSimpArgs false
set_option maxRecDepth 100000

namespace S
/-- The bytes of the names, as a number that may wrap around. -/
def szW (t : Nat → ByteArray) : Nat → Int
  | 0 => 0
  | i + 1 => if lim .i64 (szW t i + (t i).size) = true then szW t i + (t i).size else wrapI .i64 (szW t i + (t i).size)
def fewT (n : Nat) (t : Nat → ByteArray) : Bool := decide (n ≤ 12 ∧ szW t (min n 20) ≤ 300)
end S
inductive St13 where
  | h0 (x0 : Int) (x1 : Int)
abbrev Rt13 := Bool
noncomputable def V13 (al nl ml : Nat) (tl : Nat → ByteArray) (vl : Nat → Int) (gl : Nat → Int) (wl : Nat → Int) (r : Rt13) : PV := PV.bool r
noncomputable def N13 (al nl ml : Nat) (tl : Nat → ByteArray) (vl : Nat → Int) (gl : Nat → Int) (wl : Nat → Int) (r : Rt13) : List Blk := []
noncomputable def I13 (al nl ml : Nat) (tl : Nat → ByteArray) (vl : Nat → Int) (gl : Nat → Int) (wl : Nat → Int) : St13 → Hd
  | .h0 x0 x1 => ⟨hd Try.f13 0, [PV.loose (PA.mk (0) (4) al (0)) nl, PV.int IntKind.i64 x0,
 PV.int IntKind.i64 x1], [[], [(0, (false, .cols ml [.str tl, .int .i64 vl, .int .i64 gl, .int .i64 wl]))]], 1⟩
noncomputable def q13 (al nl ml : Nat) (tl : Nat → ByteArray) (vl : Nat → Int) (gl : Nat → Int) (wl : Nat → Int) : St13 → Option (St13 ⊕ Rt13)
  | .h0 x0 x1 => bif (decide (x1 < (↑nl : Int)))
 then (bif (decide (x1 < (20 : Int)))
 then (bif (decide ((0 : Int) ≤ x1 ∧ x1 < (↑nl : Int)))
 then (bif (decide (Int.toNat x1 + al < ml))
 then (bif (lim IntKind.i64 (x0 + (↑(ByteArray.size (tl (Int.toNat x1 + al))) : Int)))
 then (bif (lim IntKind.i64 (x1 + (1 : Int)))
 then (some (.inl (.h0 (x0 + (↑(ByteArray.size (tl (Int.toNat x1 + al))) : Int)) (x1 + (1 : Int)))))
 else (some (.inl (.h0 (x0 + (↑(ByteArray.size (tl (Int.toNat x1 + al))) : Int)) (S.wrapI IntKind.i64 (x1 + (1 : Int)))))))
 else (bif (lim IntKind.i64 (x1 + (1 : Int)))
 then (some (.inl (.h0 (S.wrapI IntKind.i64 (x0 + (↑(ByteArray.size (tl (Int.toNat x1 + al))) : Int))) (x1 + (1 : Int)))))
 else (some (.inl (.h0 (S.wrapI IntKind.i64 (x0 + (↑(ByteArray.size (tl (Int.toNat x1 + al))) : Int))) (S.wrapI IntKind.i64 (x1 + (1 : Int))))))))
 else (none))
 else (none))
 else (bif (decide ((↑nl : Int) ≤ (12 : Int)))
 then (bif (decide (x0 ≤ (300 : Int)))
 then (some (.inr (true)))
 else (some (.inr (false))))
 else (some (.inr (false)))))
 else (bif (decide ((↑nl : Int) ≤ (12 : Int)))
 then (bif (decide (x0 ≤ (300 : Int)))
 then (some (.inr (true)))
 else (some (.inr (false))))
 else (some (.inr (false))))
noncomputable def p13 (al nl ml : Nat) (tl : Nat → ByteArray) (vl : Nat → Int) (gl : Nat → Int) (wl : Nat → Int) : Option (St13 ⊕ Rt13) := some (.inl (.h0 ((0 : Int)) ((0 : Int))))
noncomputable def Te13 (test : Bool → Prop → Prop → Prop) (Kst : KS) (Kret : KR) (al nl ml : Nat) (tl : Nat → ByteArray) (vl : Nat → Int) (gl : Nat → Int) (wl : Nat → Int) : Prop :=
  Kst (hd Try.f13 0) ([PV.loose (PA.mk (0) (4) al (0)) nl, PV.int IntKind.i64 (0 : Int),
 PV.int IntKind.i64 (0 : Int)]) ([[(0, false,
 Blk.cols ml
 [Col.str tl, Col.int IntKind.i64 vl, Col.int IntKind.i64 gl,
 Col.int IntKind.i64 wl])]]) (1)
set_option maxRecDepth 100000 in
theorem te13 (test : Bool → Prop → Prop → Prop) (Kst : KS) (Kret : KR) (al nl ml : Nat) (tl : Nat → ByteArray) (vl : Nat → Int) (gl : Nat → Int) (wl : Nat → Int) : run test Try.env false noX true 400 ⟨13, [.cd (mkFn Try.f13).body], argT 0 [.loose ⟨0, 4, al, 0⟩ nl], [[], [(0, (false, .cols ml [.str tl, .int .i64 vl, .int .i64 gl, .int .i64 wl]))]], 1⟩ (proj 1 [0, 3, 4] Kst Kret) =
  Te13 test Kst Kret al nl ml tl vl gl wl := by kernel_rfl
noncomputable def T13_0 (test : Bool → Prop → Prop → Prop) (Kst : KS) (Kret : KR) (al nl ml : Nat) (tl : Nat → ByteArray) (vl : Nat → Int) (gl : Nat → Int) (wl : Nat → Int) (x0 : Int) (x1 : Int) : Prop :=
  test (decide (x1 < (↑nl : Int)))
 (test (decide (x1 < (20 : Int)))
 (test (decide ((0 : Int) ≤ x1 ∧ x1 < (↑nl : Int)))
 (test (decide (Int.toNat x1 + al < ml))
 (test (lim IntKind.i64 (x0 + (↑(ByteArray.size (tl (Int.toNat x1 + al))) : Int)))
 (test (lim IntKind.i64 (x1 + (1 : Int)))
 (Kst (hd Try.f13 0) ([PV.loose (PA.mk (0) (4) al (0)) nl,
 PV.int IntKind.i64 (x0 + (↑(ByteArray.size (tl (Int.toNat x1 + al))) : Int)),
 PV.int IntKind.i64 (x1 + (1 : Int))]) ([[(0, false,
 Blk.cols ml
 [Col.str tl, Col.int IntKind.i64 vl, Col.int IntKind.i64 gl,
 Col.int IntKind.i64 wl])]]) (1))
 (Kst (hd Try.f13 0) ([PV.loose (PA.mk (0) (4) al (0)) nl,
 PV.int IntKind.i64 (x0 + (↑(ByteArray.size (tl (Int.toNat x1 + al))) : Int)),
 PV.int IntKind.i64 (S.wrapI IntKind.i64 (x1 + (1 : Int)))]) ([[(0, false,
 Blk.cols ml
 [Col.str tl, Col.int IntKind.i64 vl, Col.int IntKind.i64 gl,
 Col.int IntKind.i64 wl])]]) (1)))
 (test (lim IntKind.i64 (x1 + (1 : Int)))
 (Kst (hd Try.f13 0) ([PV.loose (PA.mk (0) (4) al (0)) nl,
 PV.int IntKind.i64 (S.wrapI IntKind.i64 (x0 + (↑(ByteArray.size (tl (Int.toNat x1 + al))) : Int))),
 PV.int IntKind.i64 (x1 + (1 : Int))]) ([[(0, false,
 Blk.cols ml
 [Col.str tl, Col.int IntKind.i64 vl, Col.int IntKind.i64 gl,
 Col.int IntKind.i64 wl])]]) (1))
 (Kst (hd Try.f13 0) ([PV.loose (PA.mk (0) (4) al (0)) nl,
 PV.int IntKind.i64 (S.wrapI IntKind.i64 (x0 + (↑(ByteArray.size (tl (Int.toNat x1 + al))) : Int))),
 PV.int IntKind.i64 (S.wrapI IntKind.i64 (x1 + (1 : Int)))]) ([[(0, false,
 Blk.cols ml
 [Col.str tl, Col.int IntKind.i64 vl, Col.int IntKind.i64 gl,
 Col.int IntKind.i64 wl])]]) (1))))
 (False))
 (False))
 (test (decide ((↑nl : Int) ≤ (12 : Int)))
 (test (decide (x0 ≤ (300 : Int)))
 (Kret (PV.tf true) ([[(0, false,
 Blk.cols ml
 [Col.str tl, Col.int IntKind.i64 vl, Col.int IntKind.i64 gl,
 Col.int IntKind.i64 wl])]]) (1))
 (Kret (PV.tf false) ([[(0, false,
 Blk.cols ml
 [Col.str tl, Col.int IntKind.i64 vl, Col.int IntKind.i64 gl,
 Col.int IntKind.i64 wl])]]) (1)))
 (Kret (PV.tf false) ([[(0, false,
 Blk.cols ml
 [Col.str tl, Col.int IntKind.i64 vl, Col.int IntKind.i64 gl,
 Col.int IntKind.i64 wl])]]) (1))))
 (test (decide ((↑nl : Int) ≤ (12 : Int)))
 (test (decide (x0 ≤ (300 : Int)))
 (Kret (PV.tf true) ([[(0, false,
 Blk.cols ml
 [Col.str tl, Col.int IntKind.i64 vl, Col.int IntKind.i64 gl,
 Col.int IntKind.i64 wl])]]) (1))
 (Kret (PV.tf false) ([[(0, false,
 Blk.cols ml
 [Col.str tl, Col.int IntKind.i64 vl, Col.int IntKind.i64 gl,
 Col.int IntKind.i64 wl])]]) (1)))
 (Kret (PV.tf false) ([[(0, false,
 Blk.cols ml
 [Col.str tl, Col.int IntKind.i64 vl, Col.int IntKind.i64 gl,
 Col.int IntKind.i64 wl])]]) (1)))
set_option maxRecDepth 100000 in
theorem t13_0 (test : Bool → Prop → Prop → Prop) (Kst : KS) (Kret : KR) (al nl ml : Nat) (tl : Nat → ByteArray) (vl : Nat → Int) (gl : Nat → Int) (wl : Nat → Int) (x0 : Int) (x1 : Int) : run test Try.env false noX true 400 ⟨13, hd Try.f13 0, zipT [0, 3, 4] [PV.loose (PA.mk (0) (4) al (0)) nl, PV.int IntKind.i64 x0,
 PV.int IntKind.i64 x1], [[], [(0, (false, .cols ml [.str tl, .int .i64 vl, .int .i64 gl, .int .i64 wl]))]], 1⟩ (proj 1 [0, 3, 4] Kst Kret) =
  T13_0 test Kst Kret al nl ml tl vl gl wl x0 x1 := by kernel_rfl
attribute [local irreducible] Int.subNatNat in
set_option maxRecDepth 100000 in
theorem be13 (al nl ml : Nat) (tl : Nat → ByteArray) (vl : Nat → Int) (gl : Nat → Int) (wl : Nat → Int) (Kst : KS) (Kret : KR) (x : St13 ⊕ Rt13) (hS : HS 1 400 ((I13 al nl ml tl vl gl wl)) Kst x) (hR : HR 1 400 ((V13 al nl ml tl vl gl wl)) (fun r => [newL (1 + 1) ((N13 al nl ml tl vl gl wl) r) ++ [(0, (false, .cols ml [.str tl, .int .i64 vl, .int .i64 gl, .int .i64 wl]))]]) Kret x) (h : (some (.inl (.h0 ((0 : Int)) ((0 : Int)))) : Option (St13 ⊕ Rt13)) = some x) : Te13 cond Kst Kret al nl ml tl vl gl wl := by
  unfold Te13
  exact stop_at hS _ h (fun n => n) rfl rfl rfl ⟨(rn_loose (use_lo rfl) rfl rfl rfl), ⟨(rn_int rfl), ⟨(rn_int rfl), trivial⟩⟩⟩ rfl (entl_bor (use_lo rfl) rfl rfl entl_nil)
attribute [local irreducible] Int.subNatNat in
set_option maxRecDepth 100000 in
theorem b13_0 (al nl ml : Nat) (tl : Nat → ByteArray) (vl : Nat → Int) (gl : Nat → Int) (wl : Nat → Int) (Kst : KS) (Kret : KR) (x : St13 ⊕ Rt13) (hS : HS 1 400 ((I13 al nl ml tl vl gl wl)) Kst x) (hR : HR 1 400 ((V13 al nl ml tl vl gl wl)) (fun r => [newL (1 + 1) ((N13 al nl ml tl vl gl wl) r) ++ [(0, (false, .cols ml [.str tl, .int .i64 vl, .int .i64 gl, .int .i64 wl]))]]) Kret x) (x0 : Int) (x1 : Int) (h : (bif (decide (x1 < (↑nl : Int)))
 then (bif (decide (x1 < (20 : Int)))
 then (bif (decide ((0 : Int) ≤ x1 ∧ x1 < (↑nl : Int)))
 then (bif (decide (Int.toNat x1 + al < ml))
 then (bif (lim IntKind.i64 (x0 + (↑(ByteArray.size (tl (Int.toNat x1 + al))) : Int)))
 then (bif (lim IntKind.i64 (x1 + (1 : Int)))
 then (some (.inl (.h0 (x0 + (↑(ByteArray.size (tl (Int.toNat x1 + al))) : Int)) (x1 + (1 : Int)))))
 else (some (.inl (.h0 (x0 + (↑(ByteArray.size (tl (Int.toNat x1 + al))) : Int)) (S.wrapI IntKind.i64 (x1 + (1 : Int)))))))
 else (bif (lim IntKind.i64 (x1 + (1 : Int)))
 then (some (.inl (.h0 (S.wrapI IntKind.i64 (x0 + (↑(ByteArray.size (tl (Int.toNat x1 + al))) : Int))) (x1 + (1 : Int)))))
 else (some (.inl (.h0 (S.wrapI IntKind.i64 (x0 + (↑(ByteArray.size (tl (Int.toNat x1 + al))) : Int))) (S.wrapI IntKind.i64 (x1 + (1 : Int))))))))
 else (none))
 else (none))
 else (bif (decide ((↑nl : Int) ≤ (12 : Int)))
 then (bif (decide (x0 ≤ (300 : Int)))
 then (some (.inr (true)))
 else (some (.inr (false))))
 else (some (.inr (false)))))
 else (bif (decide ((↑nl : Int) ≤ (12 : Int)))
 then (bif (decide (x0 ≤ (300 : Int)))
 then (some (.inr (true)))
 else (some (.inr (false))))
 else (some (.inr (false)))) : Option (St13 ⊕ Rt13)) = some x) : T13_0 cond Kst Kret al nl ml tl vl gl wl x0 x1 := by
  unfold T13_0
  exact bif_split h
   (fun c0 h => bif_split h
   (fun c1 h => bif_split h
   (fun c2 h => bif_split h
   (fun c3 h => bif_split h
   (fun c4 h => bif_split h
   (fun c5 h => stop_at hS _ h (fun n => n) rfl rfl rfl ⟨(rn_loose (use_lo rfl) rfl rfl rfl), ⟨(rn_int rfl), ⟨(rn_int rfl), trivial⟩⟩⟩ rfl (entl_bor (use_lo rfl) rfl rfl entl_nil))
   (fun c5 h => stop_at hS _ h (fun n => n) rfl rfl rfl ⟨(rn_loose (use_lo rfl) rfl rfl rfl), ⟨(rn_int rfl), ⟨(rn_int rfl), trivial⟩⟩⟩ rfl (entl_bor (use_lo rfl) rfl rfl entl_nil)))
   (fun c4 h => bif_split h
   (fun c5 h => stop_at hS _ h (fun n => n) rfl rfl rfl ⟨(rn_loose (use_lo rfl) rfl rfl rfl), ⟨(rn_int rfl), ⟨(rn_int rfl), trivial⟩⟩⟩ rfl (entl_bor (use_lo rfl) rfl rfl entl_nil))
   (fun c5 h => stop_at hS _ h (fun n => n) rfl rfl rfl ⟨(rn_loose (use_lo rfl) rfl rfl rfl), ⟨(rn_int rfl), ⟨(rn_int rfl), trivial⟩⟩⟩ rfl (entl_bor (use_lo rfl) rfl rfl entl_nil))))
   (fun c3 h => no_some h))
   (fun c2 h => no_some h))
   (fun c1 h => bif_split h
   (fun c2 h => bif_split h
   (fun c3 h => ret_at hR _ h (fun n => n) rfl rfl rfl (rn_bool_tf rfl) rfl (entl_bor (use_lo rfl) rfl rfl entl_nil))
   (fun c3 h => ret_at hR _ h (fun n => n) rfl rfl rfl (rn_bool_tf rfl) rfl (entl_bor (use_lo rfl) rfl rfl entl_nil)))
   (fun c2 h => ret_at hR _ h (fun n => n) rfl rfl rfl (rn_bool_tf rfl) rfl (entl_bor (use_lo rfl) rfl rfl entl_nil))))
   (fun c0 h => bif_split h
   (fun c1 h => bif_split h
   (fun c2 h => ret_at hR _ h (fun n => n) rfl rfl rfl (rn_bool_tf rfl) rfl (entl_bor (use_lo rfl) rfl rfl entl_nil))
   (fun c2 h => ret_at hR _ h (fun n => n) rfl rfl rfl (rn_bool_tf rfl) rfl (entl_bor (use_lo rfl) rfl rfl entl_nil)))
   (fun c1 h => ret_at hR _ h (fun n => n) rfl rfl rfl (rn_bool_tf rfl) rfl (entl_bor (use_lo rfl) rfl rfl entl_nil)))
theorem a13 (al nl ml : Nat) (tl : Nat → ByteArray) (vl : Nat → Int) (gl : Nat → Int) (wl : Nat → Int) {r : Rt13} (h : Goes ((q13 al nl ml tl vl gl wl)) ((p13 al nl ml tl vl gl wl)) r) : CallR Try.prog 13 [.loose ⟨0, 4, al, 0⟩ nl] [[(0, (false, .cols ml [.str tl, .int .i64 vl, .int .i64 gl, .int .i64 wl]))]] 1 ((V13 al nl ml tl vl gl wl) r) ((fun r => [newL (1 + 1) ((N13 al nl ml tl vl gl wl) r) ++ [(0, (false, .cols ml [.str tl, .int .i64 vl, .int .i64 gl, .int .i64 wl]))]]) r) 400 ∧ ∃ F, Try.prog.funcs[13]? = some F ∧ F.body.isSome = true ∧ (F.name == "runtime.NumGoroutine") = false := by
  refine dec_calls (sy := false) (f := 13) (lo := 1) (hi := 400) (H := [[(0, (false, .cols ml [.str tl, .int .i64 vl, .int .i64 gl, .int .i64 wl]))]]) (args := [.loose ⟨0, 4, al, 0⟩ nl]) Try.envOk Try.mixed noX_ok ((I13 al nl ml tl vl gl wl)) ((V13 al nl ml tl vl gl wl)) (fun r => [newL (1 + 1) ((N13 al nl ml tl vl gl wl) r) ++ [(0, (false, .cols ml [.str tl, .int .i64 vl, .int .i64 gl, .int .i64 wl]))]]) (fn := mkFn Try.f13) (ts := [0, 3, 4]) (n := 400) rfl (by decide) (by simp) (names_of rfl) ?_ ?_ ?_ h
  · intro s; cases s <;> exact ⟨hd_ok _ _, by simp [I13], names_of rfl, Nat.le_of_ble_eq_true rfl⟩
  · intro Kst Kret x hS hR h
    exact Holds.eq (te13 cond Kst Kret al nl ml tl vl gl wl) (be13 al nl ml tl vl gl wl Kst Kret x hS hR h)
  · intro Kst Kret x hS hR s h
    cases s with
    | h0 x0 x1 => exact Holds.eq (t13_0 cond Kst Kret al nl ml tl vl gl wl x0 x1) (b13_0 al nl ml tl vl gl wl Kst Kret x hS hR x0 x1 h)
noncomputable def k13 : Con := ⟨13, [.one (.list [.str, .int .i64, .int .i64, .int .i64])], fun (x : (Nat × Nat × Nat × (Nat → ByteArray) × (Nat → Int) × (Nat → Int) × (Nat → Int) × Unit) × Unit) => (fun (al nl ml : Nat) (tl : Nat → ByteArray) (vl : Nat → Int) (gl : Nat → Int) (wl : Nat → Int) => decide (al + nl ≤ ml)) x.1.1 x.1.2.1 x.1.2.2.1 x.1.2.2.2.1 x.1.2.2.2.2.1 x.1.2.2.2.2.2.1 x.1.2.2.2.2.2.2.1, fun (x : (Nat × Nat × Nat × (Nat → ByteArray) × (Nat → Int) × (Nat → Int) × (Nat → Int) × Unit) × Unit) => (fun (al nl ml : Nat) (tl : Nat → ByteArray) (vl : Nat → Int) (gl : Nat → Int) (wl : Nat → Int) => (V13 al nl ml tl vl gl wl) (S.fewT nl (fun j => tl (j + al)))) x.1.1 x.1.2.1 x.1.2.2.1 x.1.2.2.2.1 x.1.2.2.2.2.1 x.1.2.2.2.2.2.1 x.1.2.2.2.2.2.2.1, fun (x : (Nat × Nat × Nat × (Nat → ByteArray) × (Nat → Int) × (Nat → Int) × (Nat → Int) × Unit) × Unit) => (fun (al nl ml : Nat) (tl : Nat → ByteArray) (vl : Nat → Int) (gl : Nat → Int) (wl : Nat → Int) => (N13 al nl ml tl vl gl wl) (S.fewT nl (fun j => tl (j + al)))) x.1.1 x.1.2.1 x.1.2.2.1 x.1.2.2.2.1 x.1.2.2.2.2.1 x.1.2.2.2.2.2.1 x.1.2.2.2.2.2.2.1, fun _ _ => .dead⟩
theorem s13' (al nl ml : Nat) (tl : Nat → ByteArray) (vl : Nat → Int) (gl : Nat → Int) (wl : Nat → Int) (hp : al + nl ≤ ml) : ∀ (k i : Nat) (x0 : Int), i + k = min nl 20 → Holds (x0 = S.szW (fun j => tl (j + al)) i) → Comes (q13 al nl ml tl vl gl wl) (.h0 x0 (i : Int)) (S.fewT nl (fun j => tl (j + al))) := by
  intro k
  induction k with
  | zero =>
    intro i x0 hi ex
    have e : S.fewT nl (fun j => tl (j + al)) = decide (nl ≤ 12 ∧ x0 ≤ 300) := by rw [ex.get, show i = min nl 20 by omega]; rfl
    rw [e]
    clear ex e
    apply Comes.of
    show Goes _ _ _
    (first | rw [q13] | unfold q13)
    repeat' first
      | with_reducible refine goes_if (fun h => ?_) (fun h => ?_) <;> (try simp only [lim64, imp_false, decide_eq_true_eq, decide_eq_false_iff_not, Int.toNat_natCast, toNat_pred, toNat_succ, Option.getD_some, Option.getD_none, Bool.not_eq_true', Bool.not_eq_false', Bool.and_eq_true, Bool.or_eq_true, Bool.and_eq_false_iff, Bool.or_eq_false_iff, bne_iff_ne, beq_iff_eq, bne_eq_false_iff_eq, beq_eq_false_iff_ne, ne_eq, not_and, Int.not_le, Int.not_lt, ge_iff_le, gt_iff_lt, Nat.not_lt, Nat.not_le, Bool.not_eq_true, Bool.not_eq_false, Bool.true_eq_false, Bool.false_eq_true, not_false_eq_true, not_true_eq_false] at h)
      | exact goes_none.mpr (by omega)
    all_goals first | (exfalso; omega) | (refine goes_inr.mpr ?_; first | exact (decide_eq_true (by omega)).symm | exact (decide_eq_false (by omega)).symm)
  | succ k ih =>
    intro i x0 hi ex
    have ex := ex.get
    have hl : lim .i64 ((i : Int) + 1) = true := by rw [lim64]; exact decide_eq_true (by omega)
    have hlt : decide ((i : Int) < 20) = true := decide_eq_true (by omega)
    cases hb : lim .i64 (x0 + ((tl (i + al)).size : Int))
    · have ih2 := ih (i + 1) (S.wrapI .i64 (x0 + ((tl (i + al)).size : Int))) (by omega) ⟨by simp only [S.szW]; rw [← ex, hb]; rfl⟩
      clear ih ex
      apply Comes.of
      rw [q13]
      simp only [Int.toNat_natCast, hb, hl, hlt]
      generalize S.wrapI .i64 (x0 + ((tl (i + al)).size : Int)) = y at *
      clear hb hl
      repeat' first
        | with_reducible refine goes_if (fun h => ?_) (fun h => ?_) <;> (try simp only [lim64, imp_false, decide_eq_true_eq, decide_eq_false_iff_not, Int.toNat_natCast, toNat_pred, toNat_succ, Option.getD_some, Option.getD_none, Bool.not_eq_true', Bool.not_eq_false', Bool.and_eq_true, Bool.or_eq_true, Bool.and_eq_false_iff, Bool.or_eq_false_iff, bne_iff_ne, beq_iff_eq, bne_eq_false_iff_eq, beq_eq_false_iff_ne, ne_eq, not_and, Int.not_le, Int.not_lt, ge_iff_le, gt_iff_lt, Nat.not_lt, Nat.not_le, Bool.not_eq_true, Bool.not_eq_false, Bool.true_eq_false, Bool.false_eq_true, not_false_eq_true, not_true_eq_false] at h)
        | exact goes_none.mpr (by omega)
      all_goals first | (exfalso; omega) | exact ih2
    · have ih2 := ih (i + 1) (x0 + ((tl (i + al)).size : Int)) (by omega) ⟨by simp only [S.szW]; rw [← ex, hb]; rfl⟩
      clear ih ex
      apply Comes.of
      rw [q13]
      simp only [Int.toNat_natCast, hb, hl, hlt]
      clear hb hl
      repeat' first
        | with_reducible refine goes_if (fun h => ?_) (fun h => ?_) <;> (try simp only [lim64, imp_false, decide_eq_true_eq, decide_eq_false_iff_not, Int.toNat_natCast, toNat_pred, toNat_succ, Option.getD_some, Option.getD_none, Bool.not_eq_true', Bool.not_eq_false', Bool.and_eq_true, Bool.or_eq_true, Bool.and_eq_false_iff, Bool.or_eq_false_iff, bne_iff_ne, beq_iff_eq, bne_eq_false_iff_eq, beq_eq_false_iff_ne, ne_eq, not_and, Int.not_le, Int.not_lt, ge_iff_le, gt_iff_lt, Nat.not_lt, Nat.not_le, Bool.not_eq_true, Bool.not_eq_false, Bool.true_eq_false, Bool.false_eq_true, not_false_eq_true, not_true_eq_false] at h)
        | exact goes_none.mpr (by omega)
      all_goals first | (exfalso; omega) | exact ih2
theorem s13 (al nl ml : Nat) (tl : Nat → ByteArray) (vl : Nat → Int) (gl : Nat → Int) (wl : Nat → Int) (hp : al + nl ≤ ml) : Goes ((q13 al nl ml tl vl gl wl)) ((p13 al nl ml tl vl gl wl)) (S.fewT nl (fun j => tl (j + al))) := by
  exact s13' al nl ml tl vl gl wl hp (min nl 20) 0 0 (Nat.zero_add _) ⟨rfl⟩
theorem k13_ok : k13.ok Try.prog := by
  intro x hx
  obtain ⟨⟨al, nl, ml, tl, vl, gl, wl, _⟩, _⟩ := x
  obtain ⟨h1, h2⟩ := a13 al nl ml tl vl gl wl (s13 al nl ml tl vl gl wl (of_dec hx rfl))
  exact ⟨⟨400, (by decide : 1 + 1 + 0 ≤ 400), h1⟩, h2⟩

end Go.Ev
