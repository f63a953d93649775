/-
  The error of a magnet and a history.
-/
import Derived.Test.YtccojphjkaikeaaMA2
namespace Go.Ev
open Go.Proofs
set_option linter.unusedVariables false
set_option linter.unusedSimpArgs false
set_option maxRecDepth 100000

namespace S
def inE (t : Nat → Int) : Nat → Nat → Int
  | _, 0 => 0
  | i, k + 1 => if -1099511627776 ≤ t i ∧ t i ≤ 1099511627776 then inE t (i + 1) k else 6
/-- The error of a magnet and a history. -/
def histE (n : Nat) (u d w : Nat → Int) (no : Nat) (nl : Nat) (t : Nat → Int) : Int := if magE n u d w no = 0 then (if 1000 < nl then 3 else inE t 0 nl) else magE n u d w no
def aft (u d : Int) (o : Bool) (x : Int) : Bool := bif decide (x ≥ u) then true else bif decide (x ≤ d) then false else o
end S
noncomputable def yA3 (test : Bool → Prop → Prop → Prop) : Ext := consX test [k21, k22]
theorem yA3_ok : ExtOk Try.prog (yA3 cond) := consX_ok (l := [k21, k22]) ⟨k21_ok, k22_ok, trivial⟩
inductive St42 where
  | h0 (x0 : Int)
abbrev Rt42 := Int
noncomputable def V42 (ar nr mr : Nat) (tr : Nat → Int) (vr : Nat → Int) (gr : Nat → Int) (ao no mo : Nat) (to : Nat → Bool) (al nl ml : Nat) (tl : Nat → Int) (r : Rt42) : PV := PV.int IntKind.i64 r
noncomputable def N42 (ar nr mr : Nat) (tr : Nat → Int) (vr : Nat → Int) (gr : Nat → Int) (ao no mo : Nat) (to : Nat → Bool) (al nl ml : Nat) (tl : Nat → Int) (r : Rt42) : List Blk := []
noncomputable def I42 (ar nr mr : Nat) (tr : Nat → Int) (vr : Nat → Int) (gr : Nat → Int) (ao no mo : Nat) (to : Nat → Bool) (al nl ml : Nat) (tl : Nat → Int) : St42 → Hd
  | .h0 x0 => ⟨hd Try.f42 0, [PV.loose (PA.mk (2) (1) al (0)) nl, PV.int IntKind.i64 (↑nl : Int),
 PV.int IntKind.i64 x0], [[], [(0, (false, .cols mr [.int .i64 tr, .int .i64 vr, .int .i64 gr])), (1, (false, .cols mo [.bool to])), (2, (false, .cols ml [.int .i64 tl]))]], 3⟩
noncomputable def q42 (ar nr mr : Nat) (tr : Nat → Int) (vr : Nat → Int) (gr : Nat → Int) (ao no mo : Nat) (to : Nat → Bool) (al nl ml : Nat) (tl : Nat → Int) : St42 → Option (St42 ⊕ Rt42)
  | .h0 x0 => bif (decide (x0 < (↑nl : Int)))
 then (bif (decide ((0 : Int) ≤ x0 ∧ x0 < (↑nl : Int)))
 then (bif (decide (Int.toNat x0 + al < ml))
 then (bif (decide (tl (Int.toNat x0 + al) ≥ (-1099511627776 : Int)))
 then (bif (decide (tl (Int.toNat x0 + al) ≤ (1099511627776 : Int)))
 then (bif (lim IntKind.i64 (x0 + (1 : Int)))
 then (some (.inl (.h0 (x0 + (1 : Int)))))
 else (none))
 else (some (.inr ((6 : Int)))))
 else (some (.inr ((6 : Int)))))
 else (none))
 else (none))
 else (some (.inr ((0 : Int))))
noncomputable def p42 (ar nr mr : Nat) (tr : Nat → Int) (vr : Nat → Int) (gr : Nat → Int) (ao no mo : Nat) (to : Nat → Bool) (al nl ml : Nat) (tl : Nat → Int) : Option (St42 ⊕ Rt42) := bif (decide (ar + nr ≤ mr ∧ nr ≤ 1000000))
 then (bif (S.magE nr (fun (j : Nat) => tr (j + ar)) (fun (j : Nat) => vr (j + ar)) (fun (j : Nat) => gr (j + ar)) no !=
 (0 : Int))
 then (some (.inr (S.magE nr (fun (j : Nat) => tr (j + ar)) (fun (j : Nat) => vr (j + ar)) (fun (j : Nat) => gr (j + ar)) no)))
 else (bif (decide ((↑nl : Int) > (1000 : Int)))
 then (some (.inr ((3 : Int))))
 else (some (.inl (.h0 ((0 : Int)))))))
 else (none)
noncomputable def Te42 (test : Bool → Prop → Prop → Prop) (Kst : KS) (Kret : KR) (ar nr mr : Nat) (tr : Nat → Int) (vr : Nat → Int) (gr : Nat → Int) (ao no mo : Nat) (to : Nat → Bool) (al nl ml : Nat) (tl : Nat → Int) : Prop :=
  test (decide (ar + nr ≤ mr ∧ nr ≤ 1000000))
 (test (S.magE nr (fun (j : Nat) => tr (j + ar)) (fun (j : Nat) => vr (j + ar)) (fun (j : Nat) => gr (j + ar)) no !=
 (0 : Int))
 (Kret (PV.int IntKind.i64
 (S.magE nr (fun (j : Nat) => tr (j + ar)) (fun (j : Nat) => vr (j + ar)) (fun (j : Nat) => gr (j + ar)) no)) ([[(2, false, Blk.cols ml [Col.int IntKind.i64 tl]),
 (1, false, Blk.cols mo [Col.bool to]),
 (0, false,
 Blk.cols mr
 [Col.int IntKind.i64 tr, Col.int IntKind.i64 vr, Col.int IntKind.i64 gr])]]) (5))
 (test (decide ((↑nl : Int) > (1000 : Int)))
 (Kret (PV.int IntKind.i64 (3 : Int)) ([[(2, false, Blk.cols ml [Col.int IntKind.i64 tl]),
 (1, false, Blk.cols mo [Col.bool to]),
 (0, false,
 Blk.cols mr
 [Col.int IntKind.i64 tr, Col.int IntKind.i64 vr, Col.int IntKind.i64 gr])]]) (5))
 (Kst (hd Try.f42 0) ([PV.loose (PA.mk (2) (1) al (0)) nl, PV.int IntKind.i64 (↑nl : Int),
 PV.int IntKind.i64 (0 : Int)]) ([[(2, false, Blk.cols ml [Col.int IntKind.i64 tl]),
 (1, false, Blk.cols mo [Col.bool to]),
 (0, false,
 Blk.cols mr
 [Col.int IntKind.i64 tr, Col.int IntKind.i64 vr, Col.int IntKind.i64 gr])]]) (5))))
 (False)
set_option maxRecDepth 100000 in
theorem te42 (test : Bool → Prop → Prop → Prop) (Kst : KS) (Kret : KR) (ar nr mr : Nat) (tr : Nat → Int) (vr : Nat → Int) (gr : Nat → Int) (ao no mo : Nat) (to : Nat → Bool) (al nl ml : Nat) (tl : Nat → Int) : run test Try.env true (yA3 test) true 400 ⟨42, [.cd (mkFn Try.f42).body], argT 0 [.agg [.loose ⟨0, 3, ar, 0⟩ nr, .loose ⟨1, 1, ao, 0⟩ no], .loose ⟨2, 1, al, 0⟩ nl], [[], [(0, (false, .cols mr [.int .i64 tr, .int .i64 vr, .int .i64 gr])), (1, (false, .cols mo [.bool to])), (2, (false, .cols ml [.int .i64 tl]))]], 3⟩ (proj 3 [16, 17, 18] Kst Kret) =
  Te42 test Kst Kret ar nr mr tr vr gr ao no mo to al nl ml tl := by kernel_rfl
noncomputable def T42_0 (test : Bool → Prop → Prop → Prop) (Kst : KS) (Kret : KR) (ar nr mr : Nat) (tr : Nat → Int) (vr : Nat → Int) (gr : Nat → Int) (ao no mo : Nat) (to : Nat → Bool) (al nl ml : Nat) (tl : Nat → Int) (x0 : Int) : Prop :=
  test (decide (x0 < (↑nl : Int)))
 (test (decide ((0 : Int) ≤ x0 ∧ x0 < (↑nl : Int)))
 (test (decide (Int.toNat x0 + al < ml))
 (test (decide (tl (Int.toNat x0 + al) ≥ (-1099511627776 : Int)))
 (test (decide (tl (Int.toNat x0 + al) ≤ (1099511627776 : Int)))
 (test (lim IntKind.i64 (x0 + (1 : Int)))
 (Kst (hd Try.f42 0) ([PV.loose (PA.mk (2) (1) al (0)) nl, PV.int IntKind.i64 (↑nl : Int),
 PV.int IntKind.i64 (x0 + (1 : Int))]) ([[(2, false, Blk.cols ml [Col.int IntKind.i64 tl]),
 (1, false, Blk.cols mo [Col.bool to]),
 (0, false,
 Blk.cols mr
 [Col.int IntKind.i64 tr, Col.int IntKind.i64 vr, Col.int IntKind.i64 gr])]]) (3))
 (False))
 (Kret (PV.int IntKind.i64 (6 : Int)) ([[(2, false, Blk.cols ml [Col.int IntKind.i64 tl]),
 (1, false, Blk.cols mo [Col.bool to]),
 (0, false,
 Blk.cols mr
 [Col.int IntKind.i64 tr, Col.int IntKind.i64 vr, Col.int IntKind.i64 gr])]]) (3)))
 (Kret (PV.int IntKind.i64 (6 : Int)) ([[(2, false, Blk.cols ml [Col.int IntKind.i64 tl]),
 (1, false, Blk.cols mo [Col.bool to]),
 (0, false,
 Blk.cols mr
 [Col.int IntKind.i64 tr, Col.int IntKind.i64 vr, Col.int IntKind.i64 gr])]]) (3)))
 (False))
 (False))
 (Kret (PV.int IntKind.i64 (0 : Int)) ([[(2, false, Blk.cols ml [Col.int IntKind.i64 tl]),
 (1, false, Blk.cols mo [Col.bool to]),
 (0, false,
 Blk.cols mr
 [Col.int IntKind.i64 tr, Col.int IntKind.i64 vr, Col.int IntKind.i64 gr])]]) (3))
set_option maxRecDepth 100000 in
theorem t42_0 (test : Bool → Prop → Prop → Prop) (Kst : KS) (Kret : KR) (ar nr mr : Nat) (tr : Nat → Int) (vr : Nat → Int) (gr : Nat → Int) (ao no mo : Nat) (to : Nat → Bool) (al nl ml : Nat) (tl : Nat → Int) (x0 : Int) : run test Try.env true (yA3 test) true 400 ⟨42, hd Try.f42 0, zipT [16, 17, 18] [PV.loose (PA.mk (2) (1) al (0)) nl, PV.int IntKind.i64 (↑nl : Int),
 PV.int IntKind.i64 x0], [[], [(0, (false, .cols mr [.int .i64 tr, .int .i64 vr, .int .i64 gr])), (1, (false, .cols mo [.bool to])), (2, (false, .cols ml [.int .i64 tl]))]], 3⟩ (proj 3 [16, 17, 18] Kst Kret) =
  T42_0 test Kst Kret ar nr mr tr vr gr ao no mo to al nl ml tl x0 := by kernel_rfl
set_option maxRecDepth 100000 in
theorem be42 (ar nr mr : Nat) (tr : Nat → Int) (vr : Nat → Int) (gr : Nat → Int) (ao no mo : Nat) (to : Nat → Bool) (al nl ml : Nat) (tl : Nat → Int) (Kst : KS) (Kret : KR) (x : St42 ⊕ Rt42) (hS : HS 3 400 ((I42 ar nr mr tr vr gr ao no mo to al nl ml tl)) Kst x) (hR : HR 3 400 ((V42 ar nr mr tr vr gr ao no mo to al nl ml tl)) (fun r => [newL (3 + 1) ((N42 ar nr mr tr vr gr ao no mo to al nl ml tl) r) ++ [(0, (false, .cols mr [.int .i64 tr, .int .i64 vr, .int .i64 gr])), (1, (false, .cols mo [.bool to])), (2, (false, .cols ml [.int .i64 tl]))]]) Kret x) (h : (bif (decide (ar + nr ≤ mr ∧ nr ≤ 1000000))
 then (bif (S.magE nr (fun (j : Nat) => tr (j + ar)) (fun (j : Nat) => vr (j + ar)) (fun (j : Nat) => gr (j + ar)) no !=
 (0 : Int))
 then (some (.inr (S.magE nr (fun (j : Nat) => tr (j + ar)) (fun (j : Nat) => vr (j + ar)) (fun (j : Nat) => gr (j + ar)) no)))
 else (bif (decide ((↑nl : Int) > (1000 : Int)))
 then (some (.inr ((3 : Int))))
 else (some (.inl (.h0 ((0 : Int)))))))
 else (none) : Option (St42 ⊕ Rt42)) = some x) : Te42 cond Kst Kret ar nr mr tr vr gr ao no mo to al nl ml tl := by
  unfold Te42
  exact bif_split h
   (fun c0 h => bif_split h
   (fun c1 h => ret_at hR _ h (fun n => n) rfl rfl rfl (rn_int rfl) rfl (entl_bor (use_lo rfl) rfl rfl (entl_bor (use_lo rfl) rfl rfl (entl_bor (use_lo rfl) rfl rfl entl_nil))))
   (fun c1 h => bif_split h
   (fun c2 h => ret_at hR _ h (fun n => n) rfl rfl rfl (rn_int rfl) rfl (entl_bor (use_lo rfl) rfl rfl (entl_bor (use_lo rfl) rfl rfl (entl_bor (use_lo rfl) rfl rfl entl_nil))))
   (fun c2 h => stop_at hS _ h (fun n => n) rfl rfl rfl ⟨(rn_loose (use_lo rfl) rfl rfl rfl), ⟨(rn_int rfl), ⟨(rn_int rfl), trivial⟩⟩⟩ rfl (entl_bor (use_lo rfl) rfl rfl (entl_bor (use_lo rfl) rfl rfl (entl_bor (use_lo rfl) rfl rfl entl_nil))))))
   (fun c0 h => no_some h)
set_option maxRecDepth 100000 in
theorem b42_0 (ar nr mr : Nat) (tr : Nat → Int) (vr : Nat → Int) (gr : Nat → Int) (ao no mo : Nat) (to : Nat → Bool) (al nl ml : Nat) (tl : Nat → Int) (Kst : KS) (Kret : KR) (x : St42 ⊕ Rt42) (hS : HS 3 400 ((I42 ar nr mr tr vr gr ao no mo to al nl ml tl)) Kst x) (hR : HR 3 400 ((V42 ar nr mr tr vr gr ao no mo to al nl ml tl)) (fun r => [newL (3 + 1) ((N42 ar nr mr tr vr gr ao no mo to al nl ml tl) r) ++ [(0, (false, .cols mr [.int .i64 tr, .int .i64 vr, .int .i64 gr])), (1, (false, .cols mo [.bool to])), (2, (false, .cols ml [.int .i64 tl]))]]) Kret x) (x0 : Int) (h : (bif (decide (x0 < (↑nl : Int)))
 then (bif (decide ((0 : Int) ≤ x0 ∧ x0 < (↑nl : Int)))
 then (bif (decide (Int.toNat x0 + al < ml))
 then (bif (decide (tl (Int.toNat x0 + al) ≥ (-1099511627776 : Int)))
 then (bif (decide (tl (Int.toNat x0 + al) ≤ (1099511627776 : Int)))
 then (bif (lim IntKind.i64 (x0 + (1 : Int)))
 then (some (.inl (.h0 (x0 + (1 : Int)))))
 else (none))
 else (some (.inr ((6 : Int)))))
 else (some (.inr ((6 : Int)))))
 else (none))
 else (none))
 else (some (.inr ((0 : Int)))) : Option (St42 ⊕ Rt42)) = some x) : T42_0 cond Kst Kret ar nr mr tr vr gr ao no mo to al nl ml tl x0 := by
  unfold T42_0
  exact bif_split h
   (fun c0 h => bif_split h
   (fun c1 h => bif_split h
   (fun c2 h => bif_split h
   (fun c3 h => bif_split h
   (fun c4 h => bif_split h
   (fun c5 h => stop_at hS _ h (fun n => n) rfl rfl rfl ⟨(rn_loose (use_lo rfl) rfl rfl rfl), ⟨(rn_int rfl), ⟨(rn_int rfl), trivial⟩⟩⟩ rfl (entl_bor (use_lo rfl) rfl rfl (entl_bor (use_lo rfl) rfl rfl (entl_bor (use_lo rfl) rfl rfl entl_nil))))
   (fun c5 h => no_some h))
   (fun c4 h => ret_at hR _ h (fun n => n) rfl rfl rfl (rn_int rfl) rfl (entl_bor (use_lo rfl) rfl rfl (entl_bor (use_lo rfl) rfl rfl (entl_bor (use_lo rfl) rfl rfl entl_nil)))))
   (fun c3 h => ret_at hR _ h (fun n => n) rfl rfl rfl (rn_int rfl) rfl (entl_bor (use_lo rfl) rfl rfl (entl_bor (use_lo rfl) rfl rfl (entl_bor (use_lo rfl) rfl rfl entl_nil)))))
   (fun c2 h => no_some h))
   (fun c1 h => no_some h))
   (fun c0 h => ret_at hR _ h (fun n => n) rfl rfl rfl (rn_int rfl) rfl (entl_bor (use_lo rfl) rfl rfl (entl_bor (use_lo rfl) rfl rfl (entl_bor (use_lo rfl) rfl rfl entl_nil))))
theorem a42 (ar nr mr : Nat) (tr : Nat → Int) (vr : Nat → Int) (gr : Nat → Int) (ao no mo : Nat) (to : Nat → Bool) (al nl ml : Nat) (tl : Nat → Int) {r : Rt42} (h : Goes ((q42 ar nr mr tr vr gr ao no mo to al nl ml tl)) ((p42 ar nr mr tr vr gr ao no mo to al nl ml tl)) r) : CallR Try.prog 42 [.agg [.loose ⟨0, 3, ar, 0⟩ nr, .loose ⟨1, 1, ao, 0⟩ no], .loose ⟨2, 1, al, 0⟩ nl] [[(0, (false, .cols mr [.int .i64 tr, .int .i64 vr, .int .i64 gr])), (1, (false, .cols mo [.bool to])), (2, (false, .cols ml [.int .i64 tl]))]] 3 ((V42 ar nr mr tr vr gr ao no mo to al nl ml tl) r) ((fun r => [newL (3 + 1) ((N42 ar nr mr tr vr gr ao no mo to al nl ml tl) r) ++ [(0, (false, .cols mr [.int .i64 tr, .int .i64 vr, .int .i64 gr])), (1, (false, .cols mo [.bool to])), (2, (false, .cols ml [.int .i64 tl]))]]) r) 400 ∧ ∃ F, Try.prog.funcs[42]? = some F ∧ F.body.isSome = true ∧ (F.name == "runtime.NumGoroutine") = false := by
  refine dec_calls (f := 42) (lo := 3) (hi := 400) (H := [[(0, (false, .cols mr [.int .i64 tr, .int .i64 vr, .int .i64 gr])), (1, (false, .cols mo [.bool to])), (2, (false, .cols ml [.int .i64 tl]))]]) (args := [.agg [.loose ⟨0, 3, ar, 0⟩ nr, .loose ⟨1, 1, ao, 0⟩ no], .loose ⟨2, 1, al, 0⟩ nl]) Try.envOk Try.mixed yA3_ok ((I42 ar nr mr tr vr gr ao no mo to al nl ml tl)) ((V42 ar nr mr tr vr gr ao no mo to al nl ml tl)) (fun r => [newL (3 + 1) ((N42 ar nr mr tr vr gr ao no mo to al nl ml tl) r) ++ [(0, (false, .cols mr [.int .i64 tr, .int .i64 vr, .int .i64 gr])), (1, (false, .cols mo [.bool to])), (2, (false, .cols ml [.int .i64 tl]))]]) (fn := mkFn Try.f42) (ts := [16, 17, 18]) (n := 400) rfl (by decide) (by simp) (names_of rfl) ?_ ?_ ?_ h
  · intro s; cases s <;> exact ⟨hd_ok _ _, by simp [I42], names_of rfl, Nat.le_of_ble_eq_true rfl⟩
  · intro Kst Kret x hS hR h
    exact Holds.eq (te42 cond Kst Kret ar nr mr tr vr gr ao no mo to al nl ml tl) (be42 ar nr mr tr vr gr ao no mo to al nl ml tl Kst Kret x hS hR h)
  · intro Kst Kret x hS hR s h
    cases s with
    | h0 x0 => exact Holds.eq (t42_0 cond Kst Kret ar nr mr tr vr gr ao no mo to al nl ml tl x0) (b42_0 ar nr mr tr vr gr ao no mo to al nl ml tl Kst Kret x hS hR x0 h)
noncomputable def k42 : Con := ⟨42, [.agg [.list [.int .i64, .int .i64, .int .i64], .list [.bool]], .one (.list [.int .i64])], fun (x : ((Nat × Nat × Nat × (Nat → Int) × (Nat → Int) × (Nat → Int) × Unit) × (Nat × Nat × Nat × (Nat → Bool) × Unit) × Unit) × (Nat × Nat × Nat × (Nat → Int) × Unit) × Unit) => (fun (ar nr mr : Nat) (tr : Nat → Int) (vr : Nat → Int) (gr : Nat → Int) (ao no mo : Nat) (to : Nat → Bool) (al nl ml : Nat) (tl : Nat → Int) => decide (ar + nr ≤ mr ∧ nr ≤ 1000000 ∧ al + nl ≤ ml ∧ nl ≤ 1000000)) x.1.1.1 x.1.1.2.1 x.1.1.2.2.1 x.1.1.2.2.2.1 x.1.1.2.2.2.2.1 x.1.1.2.2.2.2.2.1 x.1.2.1.1 x.1.2.1.2.1 x.1.2.1.2.2.1 x.1.2.1.2.2.2.1 x.2.1.1 x.2.1.2.1 x.2.1.2.2.1 x.2.1.2.2.2.1, fun (x : ((Nat × Nat × Nat × (Nat → Int) × (Nat → Int) × (Nat → Int) × Unit) × (Nat × Nat × Nat × (Nat → Bool) × Unit) × Unit) × (Nat × Nat × Nat × (Nat → Int) × Unit) × Unit) => (fun (ar nr mr : Nat) (tr : Nat → Int) (vr : Nat → Int) (gr : Nat → Int) (ao no mo : Nat) (to : Nat → Bool) (al nl ml : Nat) (tl : Nat → Int) => (V42 ar nr mr tr vr gr ao no mo to al nl ml tl) (S.histE nr (fun j => tr (j + ar)) (fun j => vr (j + ar)) (fun j => gr (j + ar)) no nl (fun j => tl (j + al)))) x.1.1.1 x.1.1.2.1 x.1.1.2.2.1 x.1.1.2.2.2.1 x.1.1.2.2.2.2.1 x.1.1.2.2.2.2.2.1 x.1.2.1.1 x.1.2.1.2.1 x.1.2.1.2.2.1 x.1.2.1.2.2.2.1 x.2.1.1 x.2.1.2.1 x.2.1.2.2.1 x.2.1.2.2.2.1, fun (x : ((Nat × Nat × Nat × (Nat → Int) × (Nat → Int) × (Nat → Int) × Unit) × (Nat × Nat × Nat × (Nat → Bool) × Unit) × Unit) × (Nat × Nat × Nat × (Nat → Int) × Unit) × Unit) => (fun (ar nr mr : Nat) (tr : Nat → Int) (vr : Nat → Int) (gr : Nat → Int) (ao no mo : Nat) (to : Nat → Bool) (al nl ml : Nat) (tl : Nat → Int) => (N42 ar nr mr tr vr gr ao no mo to al nl ml tl) (S.histE nr (fun j => tr (j + ar)) (fun j => vr (j + ar)) (fun j => gr (j + ar)) no nl (fun j => tl (j + al)))) x.1.1.1 x.1.1.2.1 x.1.1.2.2.1 x.1.1.2.2.2.1 x.1.1.2.2.2.2.1 x.1.1.2.2.2.2.2.1 x.1.2.1.1 x.1.2.1.2.1 x.1.2.1.2.2.1 x.1.2.1.2.2.2.1 x.2.1.1 x.2.1.2.1 x.2.1.2.2.1 x.2.1.2.2.2.1, fun _ _ => .dead⟩
theorem s42' (ar nr mr : Nat) (tr : Nat → Int) (vr : Nat → Int) (gr : Nat → Int) (ao no mo : Nat) (to : Nat → Bool) (al nl ml : Nat) (tl : Nat → Int) (hp : ar + nr ≤ mr ∧ nr ≤ 1000000 ∧ al + nl ≤ ml ∧ nl ≤ 1000000) : ∀ k i : Nat, i + k = nl → Comes (q42 ar nr mr tr vr gr ao no mo to al nl ml tl) (.h0 (i : Int)) (S.inE (fun j => tl (j + al)) i k) := by
  obtain ⟨hp1, hp2, hp3, hp4⟩ := hp
  intro k
  induction k with
  | zero =>
    intro i hi
    apply Comes.of
    show Goes _ _ _
    unfold q42
    repeat' first
      | with_reducible refine goes_if (fun h => ?_) (fun h => ?_) <;> (try simp only [lim64, decide_eq_true_eq, decide_eq_false_iff_not, Int.toNat_natCast, toNat_pred, toNat_succ, Option.getD_some, Option.getD_none, Bool.not_eq_true', Bool.not_eq_false', Bool.and_eq_true, Bool.or_eq_true, Bool.and_eq_false_iff, Bool.or_eq_false_iff, bne_iff_ne, beq_iff_eq, bne_eq_false_iff_eq, beq_eq_false_iff_ne, ne_eq, not_and, Int.not_le, Int.not_lt, ge_iff_le, gt_iff_lt, Nat.not_lt, Nat.not_le, Bool.not_eq_true, Bool.not_eq_false, Bool.true_eq_false, Bool.false_eq_true, not_false_eq_true, not_true_eq_false] at h)
      | exact goes_none.mpr (by omega)
    all_goals first | (exfalso; omega) | rfl | (refine Eq.mpr (congrArg (Comes _ _) ?_) True; simp only [S.inE]; (repeat' split) <;> first | rfl | omega | (exfalso; omega) | (exfalso; simp_all; done) | (exfalso; simp_all; omega) | simp_all) | (refine goes_inr.mpr ?_; simp only [S.inE]; (repeat' split) <;> first | rfl | omega | (exfalso; omega) | (exfalso; simp_all; done) | (exfalso; simp_all; omega) | simp_all)
  | succ k ih =>
    intro i hi
    have ih := ih (i + 1) (by omega)
    apply Comes.of
    show Goes _ _ _
    unfold q42
    repeat' first
      | with_reducible refine goes_if (fun h => ?_) (fun h => ?_) <;> (try simp only [lim64, decide_eq_true_eq, decide_eq_false_iff_not, Int.toNat_natCast, toNat_pred, toNat_succ, Option.getD_some, Option.getD_none, Bool.not_eq_true', Bool.not_eq_false', Bool.and_eq_true, Bool.or_eq_true, Bool.and_eq_false_iff, Bool.or_eq_false_iff, bne_iff_ne, beq_iff_eq, bne_eq_false_iff_eq, beq_eq_false_iff_ne, ne_eq, not_and, Int.not_le, Int.not_lt, ge_iff_le, gt_iff_lt, Nat.not_lt, Nat.not_le, Bool.not_eq_true, Bool.not_eq_false, Bool.true_eq_false, Bool.false_eq_true, not_false_eq_true, not_true_eq_false] at h)
      | exact goes_none.mpr (by omega)
    all_goals first | (exfalso; omega) | rfl | (refine Eq.mpr (congrArg (Comes _ _) ?_) ih; simp only [S.inE]; (repeat' split) <;> first | rfl | omega | (exfalso; omega) | (exfalso; simp_all; done) | (exfalso; simp_all; omega) | simp_all) | (refine goes_inr.mpr ?_; simp only [S.inE]; (repeat' split) <;> first | rfl | omega | (exfalso; omega) | (exfalso; simp_all; done) | (exfalso; simp_all; omega) | simp_all)
theorem s42 (ar nr mr : Nat) (tr : Nat → Int) (vr : Nat → Int) (gr : Nat → Int) (ao no mo : Nat) (to : Nat → Bool) (al nl ml : Nat) (tl : Nat → Int) (hp : ar + nr ≤ mr ∧ nr ≤ 1000000 ∧ al + nl ≤ ml ∧ nl ≤ 1000000) : Goes ((q42 ar nr mr tr vr gr ao no mo to al nl ml tl)) ((p42 ar nr mr tr vr gr ao no mo to al nl ml tl)) (S.histE nr (fun j => tr (j + ar)) (fun j => vr (j + ar)) (fun j => gr (j + ar)) no nl (fun j => tl (j + al))) := by
  have hm := s42' ar nr mr tr vr gr ao no mo to al nl ml tl hp nl 0 (by omega)
  obtain ⟨hp1, hp2, hp3, hp4⟩ := hp
  unfold S.histE
  show Goes _ _ _
  unfold p42
  generalize S.magE nr (fun j => tr (j + ar)) (fun j => vr (j + ar)) (fun j => gr (j + ar)) no = e
  repeat' first
    | with_reducible refine goes_if (fun h => ?_) (fun h => ?_) <;> (try simp only [lim64, decide_eq_true_eq, decide_eq_false_iff_not, Int.toNat_natCast, toNat_pred, toNat_succ, Option.getD_some, Option.getD_none, Bool.not_eq_true', Bool.not_eq_false', Bool.and_eq_true, Bool.or_eq_true, Bool.and_eq_false_iff, Bool.or_eq_false_iff, bne_iff_ne, beq_iff_eq, bne_eq_false_iff_eq, beq_eq_false_iff_ne, ne_eq, not_and, Int.not_le, Int.not_lt, ge_iff_le, gt_iff_lt, Nat.not_lt, Nat.not_le, Bool.not_eq_true, Bool.not_eq_false, Bool.true_eq_false, Bool.false_eq_true, not_false_eq_true, not_true_eq_false] at h)
    | exact goes_none.mpr (by omega)
  all_goals first | (exfalso; omega) | (refine goes_inr.mpr ?_; (repeat' split) <;> first | rfl | omega) | (rw [if_pos (by omega), if_neg (by omega)]; exact hm)

theorem k42_ok : k42.ok Try.prog := by
  intro x hx
  obtain ⟨⟨⟨ar, nr, mr, tr, vr, gr, _⟩, ⟨ao, no, mo, to, _⟩, _⟩, ⟨al, nl, ml, tl, _⟩, _⟩ := x
  obtain ⟨h1, h2⟩ := a42 ar nr mr tr vr gr ao no mo to al nl ml tl (s42 ar nr mr tr vr gr ao no mo to al nl ml tl (of_decide_eq_true hx))
  exact ⟨⟨400, (by decide : 3 + 1 + 0 ≤ 400), h1⟩, h2⟩
inductive St45 where
  | h0 (x0 : Int)
abbrev Rt45 := Int
noncomputable def V45 (ar nr mr : Nat) (tr : Nat → Int) (vr : Nat → Int) (gr : Nat → Int) (ao no mo : Nat) (to : Nat → Bool) (al nl ml : Nat) (tl : Nat → Int) (r : Rt45) : PV := PV.int IntKind.i64 r
noncomputable def N45 (ar nr mr : Nat) (tr : Nat → Int) (vr : Nat → Int) (gr : Nat → Int) (ao no mo : Nat) (to : Nat → Bool) (al nl ml : Nat) (tl : Nat → Int) (r : Rt45) : List Blk := []
noncomputable def I45 (ar nr mr : Nat) (tr : Nat → Int) (vr : Nat → Int) (gr : Nat → Int) (ao no mo : Nat) (to : Nat → Bool) (al nl ml : Nat) (tl : Nat → Int) : St45 → Hd
  | .h0 x0 => ⟨hd Try.f45 0, [PV.loose (PA.mk (2) (1) al (0)) nl, PV.int IntKind.i64 x0], [[], [(0, (false, .cols mr [.int .i64 tr, .int .i64 vr, .int .i64 gr])), (1, (false, .cols mo [.bool to])), (2, (false, .cols ml [.int .i64 tl]))]], 3⟩
noncomputable def q45 (ar nr mr : Nat) (tr : Nat → Int) (vr : Nat → Int) (gr : Nat → Int) (ao no mo : Nat) (to : Nat → Bool) (al nl ml : Nat) (tl : Nat → Int) : St45 → Option (St45 ⊕ Rt45)
  | .h0 x0 => bif (decide (x0 < (↑nl : Int)))
 then (bif (decide ((0 : Int) ≤ x0 ∧ x0 < (↑nl : Int)))
 then (bif (decide (Int.toNat x0 + al < ml))
 then (bif (decide (tl (Int.toNat x0 + al) < (-1099511627776 : Int)))
 then (some (.inr ((6 : Int))))
 else (bif (decide (tl (Int.toNat x0 + al) > (1099511627776 : Int)))
 then (some (.inr ((6 : Int))))
 else (bif (lim IntKind.i64 (x0 + (1 : Int)))
 then (some (.inl (.h0 (x0 + (1 : Int)))))
 else (none))))
 else (none))
 else (none))
 else (some (.inr ((0 : Int))))
noncomputable def p45 (ar nr mr : Nat) (tr : Nat → Int) (vr : Nat → Int) (gr : Nat → Int) (ao no mo : Nat) (to : Nat → Bool) (al nl ml : Nat) (tl : Nat → Int) : Option (St45 ⊕ Rt45) := bif (decide (ar + nr ≤ mr ∧ nr ≤ 1000000))
 then (bif (S.magE nr (fun (j : Nat) => tr (j + ar)) (fun (j : Nat) => vr (j + ar)) (fun (j : Nat) => gr (j + ar)) no !=
 (0 : Int))
 then (some (.inr (S.magE nr (fun (j : Nat) => tr (j + ar)) (fun (j : Nat) => vr (j + ar)) (fun (j : Nat) => gr (j + ar)) no)))
 else (bif (decide ((↑nl : Int) > (1000 : Int)))
 then (some (.inr ((3 : Int))))
 else (some (.inl (.h0 ((0 : Int)))))))
 else (none)
noncomputable def Te45 (test : Bool → Prop → Prop → Prop) (Kst : KS) (Kret : KR) (ar nr mr : Nat) (tr : Nat → Int) (vr : Nat → Int) (gr : Nat → Int) (ao no mo : Nat) (to : Nat → Bool) (al nl ml : Nat) (tl : Nat → Int) : Prop :=
  test (decide (ar + nr ≤ mr ∧ nr ≤ 1000000))
 (test (S.magE nr (fun (j : Nat) => tr (j + ar)) (fun (j : Nat) => vr (j + ar)) (fun (j : Nat) => gr (j + ar)) no !=
 (0 : Int))
 (Kret (PV.int IntKind.i64
 (S.magE nr (fun (j : Nat) => tr (j + ar)) (fun (j : Nat) => vr (j + ar)) (fun (j : Nat) => gr (j + ar)) no)) ([[(2, false, Blk.cols ml [Col.int IntKind.i64 tl]),
 (1, false, Blk.cols mo [Col.bool to]),
 (0, false,
 Blk.cols mr
 [Col.int IntKind.i64 tr, Col.int IntKind.i64 vr, Col.int IntKind.i64 gr])]]) (5))
 (test (decide ((↑nl : Int) > (1000 : Int)))
 (Kret (PV.int IntKind.i64 (3 : Int)) ([[(2, false, Blk.cols ml [Col.int IntKind.i64 tl]),
 (1, false, Blk.cols mo [Col.bool to]),
 (0, false,
 Blk.cols mr
 [Col.int IntKind.i64 tr, Col.int IntKind.i64 vr, Col.int IntKind.i64 gr])]]) (5))
 (Kst (hd Try.f45 0) ([PV.loose (PA.mk (2) (1) al (0)) nl, PV.int IntKind.i64 (0 : Int)]) ([[(2, false, Blk.cols ml [Col.int IntKind.i64 tl]),
 (1, false, Blk.cols mo [Col.bool to]),
 (0, false,
 Blk.cols mr
 [Col.int IntKind.i64 tr, Col.int IntKind.i64 vr, Col.int IntKind.i64 gr])]]) (5))))
 (False)
set_option maxRecDepth 100000 in
theorem te45 (test : Bool → Prop → Prop → Prop) (Kst : KS) (Kret : KR) (ar nr mr : Nat) (tr : Nat → Int) (vr : Nat → Int) (gr : Nat → Int) (ao no mo : Nat) (to : Nat → Bool) (al nl ml : Nat) (tl : Nat → Int) : run test Try.env true (yA3 test) true 400 ⟨45, [.cd (mkFn Try.f45).body], argT 0 [.agg [.loose ⟨0, 3, ar, 0⟩ nr, .loose ⟨1, 1, ao, 0⟩ no], .loose ⟨2, 1, al, 0⟩ nl], [[], [(0, (false, .cols mr [.int .i64 tr, .int .i64 vr, .int .i64 gr])), (1, (false, .cols mo [.bool to])), (2, (false, .cols ml [.int .i64 tl]))]], 3⟩ (proj 3 [1, 6] Kst Kret) =
  Te45 test Kst Kret ar nr mr tr vr gr ao no mo to al nl ml tl := by kernel_rfl
noncomputable def T45_0 (test : Bool → Prop → Prop → Prop) (Kst : KS) (Kret : KR) (ar nr mr : Nat) (tr : Nat → Int) (vr : Nat → Int) (gr : Nat → Int) (ao no mo : Nat) (to : Nat → Bool) (al nl ml : Nat) (tl : Nat → Int) (x0 : Int) : Prop :=
  test (decide (x0 < (↑nl : Int)))
 (test (decide ((0 : Int) ≤ x0 ∧ x0 < (↑nl : Int)))
 (test (decide (Int.toNat x0 + al < ml))
 (test (decide (tl (Int.toNat x0 + al) < (-1099511627776 : Int)))
 (Kret (PV.int IntKind.i64 (6 : Int)) ([[(2, false, Blk.cols ml [Col.int IntKind.i64 tl]),
 (1, false, Blk.cols mo [Col.bool to]),
 (0, false,
 Blk.cols mr
 [Col.int IntKind.i64 tr, Col.int IntKind.i64 vr, Col.int IntKind.i64 gr])]]) (3))
 (test (decide (tl (Int.toNat x0 + al) > (1099511627776 : Int)))
 (Kret (PV.int IntKind.i64 (6 : Int)) ([[(2, false, Blk.cols ml [Col.int IntKind.i64 tl]),
 (1, false, Blk.cols mo [Col.bool to]),
 (0, false,
 Blk.cols mr
 [Col.int IntKind.i64 tr, Col.int IntKind.i64 vr, Col.int IntKind.i64 gr])]]) (3))
 (test (lim IntKind.i64 (x0 + (1 : Int)))
 (Kst (hd Try.f45 0) ([PV.loose (PA.mk (2) (1) al (0)) nl, PV.int IntKind.i64 (x0 + (1 : Int))]) ([[(2, false, Blk.cols ml [Col.int IntKind.i64 tl]),
 (1, false, Blk.cols mo [Col.bool to]),
 (0, false,
 Blk.cols mr
 [Col.int IntKind.i64 tr, Col.int IntKind.i64 vr, Col.int IntKind.i64 gr])]]) (3))
 (False))))
 (False))
 (False))
 (Kret (PV.int IntKind.i64 (0 : Int)) ([[(2, false, Blk.cols ml [Col.int IntKind.i64 tl]),
 (1, false, Blk.cols mo [Col.bool to]),
 (0, false,
 Blk.cols mr
 [Col.int IntKind.i64 tr, Col.int IntKind.i64 vr, Col.int IntKind.i64 gr])]]) (3))
set_option maxRecDepth 100000 in
theorem t45_0 (test : Bool → Prop → Prop → Prop) (Kst : KS) (Kret : KR) (ar nr mr : Nat) (tr : Nat → Int) (vr : Nat → Int) (gr : Nat → Int) (ao no mo : Nat) (to : Nat → Bool) (al nl ml : Nat) (tl : Nat → Int) (x0 : Int) : run test Try.env true (yA3 test) true 400 ⟨45, hd Try.f45 0, zipT [1, 6] [PV.loose (PA.mk (2) (1) al (0)) nl, PV.int IntKind.i64 x0], [[], [(0, (false, .cols mr [.int .i64 tr, .int .i64 vr, .int .i64 gr])), (1, (false, .cols mo [.bool to])), (2, (false, .cols ml [.int .i64 tl]))]], 3⟩ (proj 3 [1, 6] Kst Kret) =
  T45_0 test Kst Kret ar nr mr tr vr gr ao no mo to al nl ml tl x0 := by kernel_rfl
set_option maxRecDepth 100000 in
theorem be45 (ar nr mr : Nat) (tr : Nat → Int) (vr : Nat → Int) (gr : Nat → Int) (ao no mo : Nat) (to : Nat → Bool) (al nl ml : Nat) (tl : Nat → Int) (Kst : KS) (Kret : KR) (x : St45 ⊕ Rt45) (hS : HS 3 400 ((I45 ar nr mr tr vr gr ao no mo to al nl ml tl)) Kst x) (hR : HR 3 400 ((V45 ar nr mr tr vr gr ao no mo to al nl ml tl)) (fun r => [newL (3 + 1) ((N45 ar nr mr tr vr gr ao no mo to al nl ml tl) r) ++ [(0, (false, .cols mr [.int .i64 tr, .int .i64 vr, .int .i64 gr])), (1, (false, .cols mo [.bool to])), (2, (false, .cols ml [.int .i64 tl]))]]) Kret x) (h : (bif (decide (ar + nr ≤ mr ∧ nr ≤ 1000000))
 then (bif (S.magE nr (fun (j : Nat) => tr (j + ar)) (fun (j : Nat) => vr (j + ar)) (fun (j : Nat) => gr (j + ar)) no !=
 (0 : Int))
 then (some (.inr (S.magE nr (fun (j : Nat) => tr (j + ar)) (fun (j : Nat) => vr (j + ar)) (fun (j : Nat) => gr (j + ar)) no)))
 else (bif (decide ((↑nl : Int) > (1000 : Int)))
 then (some (.inr ((3 : Int))))
 else (some (.inl (.h0 ((0 : Int)))))))
 else (none) : Option (St45 ⊕ Rt45)) = some x) : Te45 cond Kst Kret ar nr mr tr vr gr ao no mo to al nl ml tl := by
  unfold Te45
  exact bif_split h
   (fun c0 h => bif_split h
   (fun c1 h => ret_at hR _ h (fun n => n) rfl rfl rfl (rn_int rfl) rfl (entl_bor (use_lo rfl) rfl rfl (entl_bor (use_lo rfl) rfl rfl (entl_bor (use_lo rfl) rfl rfl entl_nil))))
   (fun c1 h => bif_split h
   (fun c2 h => ret_at hR _ h (fun n => n) rfl rfl rfl (rn_int rfl) rfl (entl_bor (use_lo rfl) rfl rfl (entl_bor (use_lo rfl) rfl rfl (entl_bor (use_lo rfl) rfl rfl entl_nil))))
   (fun c2 h => stop_at hS _ h (fun n => n) rfl rfl rfl ⟨(rn_loose (use_lo rfl) rfl rfl rfl), ⟨(rn_int rfl), trivial⟩⟩ rfl (entl_bor (use_lo rfl) rfl rfl (entl_bor (use_lo rfl) rfl rfl (entl_bor (use_lo rfl) rfl rfl entl_nil))))))
   (fun c0 h => no_some h)
set_option maxRecDepth 100000 in
theorem b45_0 (ar nr mr : Nat) (tr : Nat → Int) (vr : Nat → Int) (gr : Nat → Int) (ao no mo : Nat) (to : Nat → Bool) (al nl ml : Nat) (tl : Nat → Int) (Kst : KS) (Kret : KR) (x : St45 ⊕ Rt45) (hS : HS 3 400 ((I45 ar nr mr tr vr gr ao no mo to al nl ml tl)) Kst x) (hR : HR 3 400 ((V45 ar nr mr tr vr gr ao no mo to al nl ml tl)) (fun r => [newL (3 + 1) ((N45 ar nr mr tr vr gr ao no mo to al nl ml tl) r) ++ [(0, (false, .cols mr [.int .i64 tr, .int .i64 vr, .int .i64 gr])), (1, (false, .cols mo [.bool to])), (2, (false, .cols ml [.int .i64 tl]))]]) Kret x) (x0 : Int) (h : (bif (decide (x0 < (↑nl : Int)))
 then (bif (decide ((0 : Int) ≤ x0 ∧ x0 < (↑nl : Int)))
 then (bif (decide (Int.toNat x0 + al < ml))
 then (bif (decide (tl (Int.toNat x0 + al) < (-1099511627776 : Int)))
 then (some (.inr ((6 : Int))))
 else (bif (decide (tl (Int.toNat x0 + al) > (1099511627776 : Int)))
 then (some (.inr ((6 : Int))))
 else (bif (lim IntKind.i64 (x0 + (1 : Int)))
 then (some (.inl (.h0 (x0 + (1 : Int)))))
 else (none))))
 else (none))
 else (none))
 else (some (.inr ((0 : Int)))) : Option (St45 ⊕ Rt45)) = some x) : T45_0 cond Kst Kret ar nr mr tr vr gr ao no mo to al nl ml tl x0 := by
  unfold T45_0
  exact bif_split h
   (fun c0 h => bif_split h
   (fun c1 h => bif_split h
   (fun c2 h => bif_split h
   (fun c3 h => ret_at hR _ h (fun n => n) rfl rfl rfl (rn_int rfl) rfl (entl_bor (use_lo rfl) rfl rfl (entl_bor (use_lo rfl) rfl rfl (entl_bor (use_lo rfl) rfl rfl entl_nil))))
   (fun c3 h => bif_split h
   (fun c4 h => ret_at hR _ h (fun n => n) rfl rfl rfl (rn_int rfl) rfl (entl_bor (use_lo rfl) rfl rfl (entl_bor (use_lo rfl) rfl rfl (entl_bor (use_lo rfl) rfl rfl entl_nil))))
   (fun c4 h => bif_split h
   (fun c5 h => stop_at hS _ h (fun n => n) rfl rfl rfl ⟨(rn_loose (use_lo rfl) rfl rfl rfl), ⟨(rn_int rfl), trivial⟩⟩ rfl (entl_bor (use_lo rfl) rfl rfl (entl_bor (use_lo rfl) rfl rfl (entl_bor (use_lo rfl) rfl rfl entl_nil))))
   (fun c5 h => no_some h))))
   (fun c2 h => no_some h))
   (fun c1 h => no_some h))
   (fun c0 h => ret_at hR _ h (fun n => n) rfl rfl rfl (rn_int rfl) rfl (entl_bor (use_lo rfl) rfl rfl (entl_bor (use_lo rfl) rfl rfl (entl_bor (use_lo rfl) rfl rfl entl_nil))))
theorem a45 (ar nr mr : Nat) (tr : Nat → Int) (vr : Nat → Int) (gr : Nat → Int) (ao no mo : Nat) (to : Nat → Bool) (al nl ml : Nat) (tl : Nat → Int) {r : Rt45} (h : Goes ((q45 ar nr mr tr vr gr ao no mo to al nl ml tl)) ((p45 ar nr mr tr vr gr ao no mo to al nl ml tl)) r) : CallR Try.prog 45 [.agg [.loose ⟨0, 3, ar, 0⟩ nr, .loose ⟨1, 1, ao, 0⟩ no], .loose ⟨2, 1, al, 0⟩ nl] [[(0, (false, .cols mr [.int .i64 tr, .int .i64 vr, .int .i64 gr])), (1, (false, .cols mo [.bool to])), (2, (false, .cols ml [.int .i64 tl]))]] 3 ((V45 ar nr mr tr vr gr ao no mo to al nl ml tl) r) ((fun r => [newL (3 + 1) ((N45 ar nr mr tr vr gr ao no mo to al nl ml tl) r) ++ [(0, (false, .cols mr [.int .i64 tr, .int .i64 vr, .int .i64 gr])), (1, (false, .cols mo [.bool to])), (2, (false, .cols ml [.int .i64 tl]))]]) r) 400 ∧ ∃ F, Try.prog.funcs[45]? = some F ∧ F.body.isSome = true ∧ (F.name == "runtime.NumGoroutine") = false := by
  refine dec_calls (f := 45) (lo := 3) (hi := 400) (H := [[(0, (false, .cols mr [.int .i64 tr, .int .i64 vr, .int .i64 gr])), (1, (false, .cols mo [.bool to])), (2, (false, .cols ml [.int .i64 tl]))]]) (args := [.agg [.loose ⟨0, 3, ar, 0⟩ nr, .loose ⟨1, 1, ao, 0⟩ no], .loose ⟨2, 1, al, 0⟩ nl]) Try.envOk Try.mixed yA3_ok ((I45 ar nr mr tr vr gr ao no mo to al nl ml tl)) ((V45 ar nr mr tr vr gr ao no mo to al nl ml tl)) (fun r => [newL (3 + 1) ((N45 ar nr mr tr vr gr ao no mo to al nl ml tl) r) ++ [(0, (false, .cols mr [.int .i64 tr, .int .i64 vr, .int .i64 gr])), (1, (false, .cols mo [.bool to])), (2, (false, .cols ml [.int .i64 tl]))]]) (fn := mkFn Try.f45) (ts := [1, 6]) (n := 400) rfl (by decide) (by simp) (names_of rfl) ?_ ?_ ?_ h
  · intro s; cases s <;> exact ⟨hd_ok _ _, by simp [I45], names_of rfl, Nat.le_of_ble_eq_true rfl⟩
  · intro Kst Kret x hS hR h
    exact Holds.eq (te45 cond Kst Kret ar nr mr tr vr gr ao no mo to al nl ml tl) (be45 ar nr mr tr vr gr ao no mo to al nl ml tl Kst Kret x hS hR h)
  · intro Kst Kret x hS hR s h
    cases s with
    | h0 x0 => exact Holds.eq (t45_0 cond Kst Kret ar nr mr tr vr gr ao no mo to al nl ml tl x0) (b45_0 ar nr mr tr vr gr ao no mo to al nl ml tl Kst Kret x hS hR x0 h)
noncomputable def k45 : Con := ⟨45, [.agg [.list [.int .i64, .int .i64, .int .i64], .list [.bool]], .one (.list [.int .i64])], fun (x : ((Nat × Nat × Nat × (Nat → Int) × (Nat → Int) × (Nat → Int) × Unit) × (Nat × Nat × Nat × (Nat → Bool) × Unit) × Unit) × (Nat × Nat × Nat × (Nat → Int) × Unit) × Unit) => (fun (ar nr mr : Nat) (tr : Nat → Int) (vr : Nat → Int) (gr : Nat → Int) (ao no mo : Nat) (to : Nat → Bool) (al nl ml : Nat) (tl : Nat → Int) => decide (ar + nr ≤ mr ∧ nr ≤ 1000000 ∧ al + nl ≤ ml ∧ nl ≤ 1000000)) x.1.1.1 x.1.1.2.1 x.1.1.2.2.1 x.1.1.2.2.2.1 x.1.1.2.2.2.2.1 x.1.1.2.2.2.2.2.1 x.1.2.1.1 x.1.2.1.2.1 x.1.2.1.2.2.1 x.1.2.1.2.2.2.1 x.2.1.1 x.2.1.2.1 x.2.1.2.2.1 x.2.1.2.2.2.1, fun (x : ((Nat × Nat × Nat × (Nat → Int) × (Nat → Int) × (Nat → Int) × Unit) × (Nat × Nat × Nat × (Nat → Bool) × Unit) × Unit) × (Nat × Nat × Nat × (Nat → Int) × Unit) × Unit) => (fun (ar nr mr : Nat) (tr : Nat → Int) (vr : Nat → Int) (gr : Nat → Int) (ao no mo : Nat) (to : Nat → Bool) (al nl ml : Nat) (tl : Nat → Int) => (V45 ar nr mr tr vr gr ao no mo to al nl ml tl) (S.histE nr (fun j => tr (j + ar)) (fun j => vr (j + ar)) (fun j => gr (j + ar)) no nl (fun j => tl (j + al)))) x.1.1.1 x.1.1.2.1 x.1.1.2.2.1 x.1.1.2.2.2.1 x.1.1.2.2.2.2.1 x.1.1.2.2.2.2.2.1 x.1.2.1.1 x.1.2.1.2.1 x.1.2.1.2.2.1 x.1.2.1.2.2.2.1 x.2.1.1 x.2.1.2.1 x.2.1.2.2.1 x.2.1.2.2.2.1, fun (x : ((Nat × Nat × Nat × (Nat → Int) × (Nat → Int) × (Nat → Int) × Unit) × (Nat × Nat × Nat × (Nat → Bool) × Unit) × Unit) × (Nat × Nat × Nat × (Nat → Int) × Unit) × Unit) => (fun (ar nr mr : Nat) (tr : Nat → Int) (vr : Nat → Int) (gr : Nat → Int) (ao no mo : Nat) (to : Nat → Bool) (al nl ml : Nat) (tl : Nat → Int) => (N45 ar nr mr tr vr gr ao no mo to al nl ml tl) (S.histE nr (fun j => tr (j + ar)) (fun j => vr (j + ar)) (fun j => gr (j + ar)) no nl (fun j => tl (j + al)))) x.1.1.1 x.1.1.2.1 x.1.1.2.2.1 x.1.1.2.2.2.1 x.1.1.2.2.2.2.1 x.1.1.2.2.2.2.2.1 x.1.2.1.1 x.1.2.1.2.1 x.1.2.1.2.2.1 x.1.2.1.2.2.2.1 x.2.1.1 x.2.1.2.1 x.2.1.2.2.1 x.2.1.2.2.2.1, fun _ _ => .dead⟩
theorem s45' (ar nr mr : Nat) (tr : Nat → Int) (vr : Nat → Int) (gr : Nat → Int) (ao no mo : Nat) (to : Nat → Bool) (al nl ml : Nat) (tl : Nat → Int) (hp : ar + nr ≤ mr ∧ nr ≤ 1000000 ∧ al + nl ≤ ml ∧ nl ≤ 1000000) : ∀ k i : Nat, i + k = nl → Comes (q45 ar nr mr tr vr gr ao no mo to al nl ml tl) (.h0 (i : Int)) (S.inE (fun j => tl (j + al)) i k) := by
  obtain ⟨hp1, hp2, hp3, hp4⟩ := hp
  intro k
  induction k with
  | zero =>
    intro i hi
    apply Comes.of
    show Goes _ _ _
    unfold q45
    repeat' first
      | with_reducible refine goes_if (fun h => ?_) (fun h => ?_) <;> (try simp only [lim64, decide_eq_true_eq, decide_eq_false_iff_not, Int.toNat_natCast, toNat_pred, toNat_succ, Option.getD_some, Option.getD_none, Bool.not_eq_true', Bool.not_eq_false', Bool.and_eq_true, Bool.or_eq_true, Bool.and_eq_false_iff, Bool.or_eq_false_iff, bne_iff_ne, beq_iff_eq, bne_eq_false_iff_eq, beq_eq_false_iff_ne, ne_eq, not_and, Int.not_le, Int.not_lt, ge_iff_le, gt_iff_lt, Nat.not_lt, Nat.not_le, Bool.not_eq_true, Bool.not_eq_false, Bool.true_eq_false, Bool.false_eq_true, not_false_eq_true, not_true_eq_false] at h)
      | exact goes_none.mpr (by omega)
    all_goals first | (exfalso; omega) | rfl | (refine Eq.mpr (congrArg (Comes _ _) ?_) True; simp only [S.inE]; (repeat' split) <;> first | rfl | omega | (exfalso; omega) | (exfalso; simp_all; done) | (exfalso; simp_all; omega) | simp_all) | (refine goes_inr.mpr ?_; simp only [S.inE]; (repeat' split) <;> first | rfl | omega | (exfalso; omega) | (exfalso; simp_all; done) | (exfalso; simp_all; omega) | simp_all)
  | succ k ih =>
    intro i hi
    have ih := ih (i + 1) (by omega)
    apply Comes.of
    show Goes _ _ _
    unfold q45
    repeat' first
      | with_reducible refine goes_if (fun h => ?_) (fun h => ?_) <;> (try simp only [lim64, decide_eq_true_eq, decide_eq_false_iff_not, Int.toNat_natCast, toNat_pred, toNat_succ, Option.getD_some, Option.getD_none, Bool.not_eq_true', Bool.not_eq_false', Bool.and_eq_true, Bool.or_eq_true, Bool.and_eq_false_iff, Bool.or_eq_false_iff, bne_iff_ne, beq_iff_eq, bne_eq_false_iff_eq, beq_eq_false_iff_ne, ne_eq, not_and, Int.not_le, Int.not_lt, ge_iff_le, gt_iff_lt, Nat.not_lt, Nat.not_le, Bool.not_eq_true, Bool.not_eq_false, Bool.true_eq_false, Bool.false_eq_true, not_false_eq_true, not_true_eq_false] at h)
      | exact goes_none.mpr (by omega)
    all_goals first | (exfalso; omega) | rfl | (refine Eq.mpr (congrArg (Comes _ _) ?_) ih; simp only [S.inE]; (repeat' split) <;> first | rfl | omega | (exfalso; omega) | (exfalso; simp_all; done) | (exfalso; simp_all; omega) | simp_all) | (refine goes_inr.mpr ?_; simp only [S.inE]; (repeat' split) <;> first | rfl | omega | (exfalso; omega) | (exfalso; simp_all; done) | (exfalso; simp_all; omega) | simp_all)
theorem s45 (ar nr mr : Nat) (tr : Nat → Int) (vr : Nat → Int) (gr : Nat → Int) (ao no mo : Nat) (to : Nat → Bool) (al nl ml : Nat) (tl : Nat → Int) (hp : ar + nr ≤ mr ∧ nr ≤ 1000000 ∧ al + nl ≤ ml ∧ nl ≤ 1000000) : Goes ((q45 ar nr mr tr vr gr ao no mo to al nl ml tl)) ((p45 ar nr mr tr vr gr ao no mo to al nl ml tl)) (S.histE nr (fun j => tr (j + ar)) (fun j => vr (j + ar)) (fun j => gr (j + ar)) no nl (fun j => tl (j + al))) := by
  have hm := s45' ar nr mr tr vr gr ao no mo to al nl ml tl hp nl 0 (by omega)
  obtain ⟨hp1, hp2, hp3, hp4⟩ := hp
  unfold S.histE
  show Goes _ _ _
  unfold p45
  generalize S.magE nr (fun j => tr (j + ar)) (fun j => vr (j + ar)) (fun j => gr (j + ar)) no = e
  repeat' first
    | with_reducible refine goes_if (fun h => ?_) (fun h => ?_) <;> (try simp only [lim64, decide_eq_true_eq, decide_eq_false_iff_not, Int.toNat_natCast, toNat_pred, toNat_succ, Option.getD_some, Option.getD_none, Bool.not_eq_true', Bool.not_eq_false', Bool.and_eq_true, Bool.or_eq_true, Bool.and_eq_false_iff, Bool.or_eq_false_iff, bne_iff_ne, beq_iff_eq, bne_eq_false_iff_eq, beq_eq_false_iff_ne, ne_eq, not_and, Int.not_le, Int.not_lt, ge_iff_le, gt_iff_lt, Nat.not_lt, Nat.not_le, Bool.not_eq_true, Bool.not_eq_false, Bool.true_eq_false, Bool.false_eq_true, not_false_eq_true, not_true_eq_false] at h)
    | exact goes_none.mpr (by omega)
  all_goals first | (exfalso; omega) | (refine goes_inr.mpr ?_; (repeat' split) <;> first | rfl | omega) | (rw [if_pos (by omega), if_neg (by omega)]; exact hm)

theorem k45_ok : k45.ok Try.prog := by
  intro x hx
  obtain ⟨⟨⟨ar, nr, mr, tr, vr, gr, _⟩, ⟨ao, no, mo, to, _⟩, _⟩, ⟨al, nl, ml, tl, _⟩, _⟩ := x
  obtain ⟨h1, h2⟩ := a45 ar nr mr tr vr gr ao no mo to al nl ml tl (s45 ar nr mr tr vr gr ao no mo to al nl ml tl (of_decide_eq_true hx))
  exact ⟨⟨400, (by decide : 3 + 1 + 0 ≤ 400), h1⟩, h2⟩


end Go.Ev
