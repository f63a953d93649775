/-
  The law of Trains.
-/
import Derived.Test.YtejcmbcmhfejkaaR4
import Derived.Test.YtejcmbcmhfejkaaD2
import Derived.Test.YtejcmbcmhfejkaaA5
namespace Go.Ev
open Go.Proofs
set_option linter.unusedVariables false
set_option linter.unusedSimpArgs false
set_option maxRecDepth 100000
noncomputable def xMd (test : Bool → Prop → Prop → Prop) : Ext := consX test [k48]
theorem xMd_ok : ExtOk Try.prog (xMd cond) := consX_ok ⟨k48_ok, trivial⟩

end Go.Ev
namespace Go.Ev
open Go.Proofs
set_option linter.unusedVariables false
set_option linter.unusedSimpArgs false
set_option maxRecDepth 100000

namespace S
def bitB (o : Int) (i : Nat) : Bool := andB .u64 (shrB .u64 o (i : Int)) 1 == 1
end S
theorem bit_step {H i : Nat} {o : Int} {f : Nat → Bool} {c : Bool} (hc : S.bitB o i = c) : (S.mkl H fun j => bif Nat.beq j i then c else S.at' (S.mkl H fun j => if j < i then S.bitB o j else f j) j) = S.mkl H fun j => if j < i + 1 then S.bitB o j else f j := upd_step hc.symm
inductive St35 where
  | h0 (x0 : Int) (x1 : List Bool)
abbrev Rt35 := Int × List Int
noncomputable def V35 (hm : Int) (bs : Int) (r : Rt35) : PV := PV.agg [PV.int IntKind.i64 r.1, PV.own (1) (1) (List.length r.2)]
noncomputable def N35 (hm : Int) (bs : Int) (r : Rt35) : List Blk := [Blk.cols (List.length r.2) [Col.int IntKind.i64 fun (j : Nat) => S.at' r.2 j]]
noncomputable def I35 (hm : Int) (bs : Int) : St35 → Hd
  | .h0 x0 x1 => ⟨hd Try.f35 0, [PV.ptr (PA.mk (0) (0) (0) (0)),
 PV.ptr (PA.mk (1) (0) (0) (0)),
 PV.own (2) (1) (List.length x1), PV.int IntKind.i64 x0], [[(0, (true, Blk.cells [PV.int IntKind.u8 hm, PV.int IntKind.u64 bs])), (1, (true, Blk.cells [PV.int IntKind.i64 (0 : Int), PV.nils])), (2, (true, Blk.cols (List.length x1) [Col.bool fun (j : Nat) => S.at' x1 j]))], []], 3⟩
noncomputable def q35 (hm : Int) (bs : Int) : St35 → Option (St35 ⊕ Rt35)
  | .h0 x0 x1 => bif (decide (x0 < (↑(List.length x1) : Int)))
 then (bif (decide (x0 < (0 : Int)))
 then (none)
 else (bif (S.andB IntKind.u64 (S.shrB IntKind.u64 bs x0) (1 : Int) == (1 : Int))
 then (bif (decide ((0 : Int) ≤ x0 ∧ x0 < (↑(List.length x1) : Int)))
 then (bif (decide (Int.toNat x0 < List.length x1))
 then (bif (lim IntKind.i64 (x0 + (1 : Int)))
 then (some (.inl (.h0 (x0 + (1 : Int)) (S.mkl (List.length x1) fun (j : Nat) => bif Nat.beq j (Int.toNat x0) then true else S.at' x1 j))))
 else (none))
 else (none))
 else (none))
 else (bif (decide ((0 : Int) ≤ x0 ∧ x0 < (↑(List.length x1) : Int)))
 then (bif (decide (Int.toNat x0 < List.length x1))
 then (bif (lim IntKind.i64 (x0 + (1 : Int)))
 then (some (.inl (.h0 (x0 + (1 : Int)) (S.mkl (List.length x1) fun (j : Nat) => bif Nat.beq j (Int.toNat x0) then false else S.at' x1 j))))
 else (none))
 else (none))
 else (none))))
 else (bif (decide (0 + List.length x1 ≤ List.length x1 ∧ List.length x1 ≤ 999999))
 then (some (.inr ((↑(List.length x1) : Int), S.posP (fun (j : Nat) => S.at' x1 j) (List.length x1))))
 else (none))
noncomputable def p35 (hm : Int) (bs : Int) : Option (St35 ⊕ Rt35) := bif (lim IntKind.i64 (Int.tmod hm (40 : Int)))
 then (bif (lim IntKind.i64 ((1 : Int) + Int.tmod hm (40 : Int)))
 then (bif (decide
 ((0 : Int) ≤ (1 : Int) + Int.tmod hm (40 : Int) ∧
 (1 : Int) + Int.tmod hm (40 : Int) ≤ (1 : Int) + Int.tmod hm (40 : Int) ∧
 (1 : Int) + Int.tmod hm (40 : Int) ≤ (1000000 : Int)))
 then (some (.inl (.h0 ((0 : Int)) (S.mkl (Int.toNat ((1 : Int) + Int.tmod hm (40 : Int))) fun (j : Nat) => false))))
 else (none))
 else (none))
 else (none)
noncomputable def Te35 (test : Bool → Prop → Prop → Prop) (Kst : KS) (Kret : KR) (hm : Int) (bs : Int) : Prop :=
  test (false)
 (False)
 (test (lim IntKind.i64 (Int.tmod hm (40 : Int)))
 (test (lim IntKind.i64 ((1 : Int) + Int.tmod hm (40 : Int)))
 (test (decide
 ((0 : Int) ≤ (1 : Int) + Int.tmod hm (40 : Int) ∧
 (1 : Int) + Int.tmod hm (40 : Int) ≤ (1 : Int) + Int.tmod hm (40 : Int) ∧
 (1 : Int) + Int.tmod hm (40 : Int) ≤ (1000000 : Int)))
 (Kst (hd Try.f35 0) ([PV.ptr (PA.mk (0) (0) (0) (0)),
 PV.ptr (PA.mk (1) (0) (0) (0)),
 PV.own (2) (1) (Int.toNat ((1 : Int) + Int.tmod hm (40 : Int))),
 PV.int IntKind.i64 (0 : Int)]) ([[(2, true,
 Blk.cols (Int.toNat ((1 : Int) + Int.tmod hm (40 : Int))) [Col.bool fun (x : Nat) => false]),
 (1, true, Blk.cells [PV.int IntKind.i64 (0 : Int), PV.nils]),
 (0, true, Blk.cells [PV.int IntKind.u8 hm, PV.int IntKind.u64 bs])]]) (3))
 (False))
 (False))
 (False))
set_option maxRecDepth 100000 in
theorem te35 (test : Bool → Prop → Prop → Prop) (Kst : KS) (Kret : KR) (hm : Int) (bs : Int) : run test Try.env true (xMd test) true 400 ⟨35, [.cd (mkFn Try.f35).body], argT 0 [.agg [.int .u8 hm, .int .u64 bs]], [[], []], 0⟩ (proj 0 [1, 2, 3, 4] Kst Kret) =
  Te35 test Kst Kret hm bs := by kernel_rfl
noncomputable def T35_0 (test : Bool → Prop → Prop → Prop) (Kst : KS) (Kret : KR) (hm : Int) (bs : Int) (x0 : Int) (x1 : List Bool) : Prop :=
  test (decide (x0 < (↑(List.length x1) : Int)))
 (test (decide (x0 < (0 : Int)))
 (False)
 (test (S.andB IntKind.u64 (S.shrB IntKind.u64 bs x0) (1 : Int) == (1 : Int))
 (test (decide ((0 : Int) ≤ x0 ∧ x0 < (↑(List.length x1) : Int)))
 (test (decide (Int.toNat x0 < List.length x1))
 (test (lim IntKind.i64 (x0 + (1 : Int)))
 (Kst (hd Try.f35 0) ([PV.ptr (PA.mk (0) (0) (0) (0)),
 PV.ptr (PA.mk (1) (0) (0) (0)),
 PV.own (2) (1) (List.length x1), PV.int IntKind.i64 (x0 + (1 : Int))]) ([[(2, true,
 Blk.cols (List.length x1)
 [Col.bool fun (j : Nat) => bif Nat.beq j (Int.toNat x0) then true else S.at' x1 j]),
 (1, true, Blk.cells [PV.int IntKind.i64 (0 : Int), PV.nils]),
 (0, true, Blk.cells [PV.int IntKind.u8 hm, PV.int IntKind.u64 bs])]]) (3))
 (False))
 (False))
 (False))
 (test (decide ((0 : Int) ≤ x0 ∧ x0 < (↑(List.length x1) : Int)))
 (test (decide (Int.toNat x0 < List.length x1))
 (test (lim IntKind.i64 (x0 + (1 : Int)))
 (Kst (hd Try.f35 0) ([PV.ptr (PA.mk (0) (0) (0) (0)),
 PV.ptr (PA.mk (1) (0) (0) (0)),
 PV.own (2) (1) (List.length x1), PV.int IntKind.i64 (x0 + (1 : Int))]) ([[(2, true,
 Blk.cols (List.length x1)
 [Col.bool fun (j : Nat) => bif Nat.beq j (Int.toNat x0) then false else S.at' x1 j]),
 (1, true, Blk.cells [PV.int IntKind.i64 (0 : Int), PV.nils]),
 (0, true, Blk.cells [PV.int IntKind.u8 hm, PV.int IntKind.u64 bs])]]) (3))
 (False))
 (False))
 (False))))
 (test (decide (0 + List.length x1 ≤ List.length x1 ∧ List.length x1 ≤ 999999))
 (Kret (PV.agg
 [PV.int IntKind.i64 (↑(List.length x1) : Int),
 PV.own (4) (1)
 (List.length (S.posP (fun (j : Nat) => S.at' x1 j) (List.length x1)))]) ([[(4, true,
 Blk.cols (List.length (S.posP (fun (j : Nat) => S.at' x1 j) (List.length x1)))
 [Col.int IntKind.i64 fun (j : Nat) =>
 S.at' (S.posP (fun (j : Nat) => S.at' x1 j) (List.length x1)) j])]]) (5))
 (False))
set_option maxRecDepth 100000 in
theorem t35_0 (test : Bool → Prop → Prop → Prop) (Kst : KS) (Kret : KR) (hm : Int) (bs : Int) (x0 : Int) (x1 : List Bool) : run test Try.env true (xMd test) true 400 ⟨35, hd Try.f35 0, zipT [1, 2, 3, 4] [PV.ptr (PA.mk (0) (0) (0) (0)),
 PV.ptr (PA.mk (1) (0) (0) (0)),
 PV.own (2) (1) (List.length x1), PV.int IntKind.i64 x0], [[(0, (true, Blk.cells [PV.int IntKind.u8 hm, PV.int IntKind.u64 bs])), (1, (true, Blk.cells [PV.int IntKind.i64 (0 : Int), PV.nils])), (2, (true, Blk.cols (List.length x1) [Col.bool fun (j : Nat) => S.at' x1 j]))], []], 3⟩ (proj 0 [1, 2, 3, 4] Kst Kret) =
  T35_0 test Kst Kret hm bs x0 x1 := by kernel_rfl
attribute [local irreducible] Int.subNatNat in
set_option maxRecDepth 100000 in
theorem be35 (hm : Int) (bs : Int) (Kst : KS) (Kret : KR) (x : St35 ⊕ Rt35) (hS : HS 0 400 ((I35 hm bs)) Kst x) (hR : HR 0 400 ((V35 hm bs)) (fun r => [newL (0 + 1) ((N35 hm bs) r) ++ []]) Kret x) (h : (bif (lim IntKind.i64 (Int.tmod hm (40 : Int)))
 then (bif (lim IntKind.i64 ((1 : Int) + Int.tmod hm (40 : Int)))
 then (bif (decide
 ((0 : Int) ≤ (1 : Int) + Int.tmod hm (40 : Int) ∧
 (1 : Int) + Int.tmod hm (40 : Int) ≤ (1 : Int) + Int.tmod hm (40 : Int) ∧
 (1 : Int) + Int.tmod hm (40 : Int) ≤ (1000000 : Int)))
 then (some (.inl (.h0 ((0 : Int)) (S.mkl (Int.toNat ((1 : Int) + Int.tmod hm (40 : Int))) fun (j : Nat) => false))))
 else (none))
 else (none))
 else (none) : Option (St35 ⊕ Rt35)) = some x) : Te35 cond Kst Kret hm bs := by
  unfold Te35
  exact cond_no rfl (bif_split h
   (fun c0 h => bif_split h
   (fun c1 h => bif_split h
   (fun c2 h => stop_at hS _ h (fun n => bif Nat.beq n 0 then 0 else bif Nat.beq n 1 then 1 else bif Nat.beq n 2 then 2 else n) rfl rfl rfl ⟨(rn_ptr (use_own rfl) rfl rfl), ⟨(rn_ptr (use_own rfl) rfl rfl), ⟨(rn_own (use_own rfl) rfl mkl_len), ⟨(rn_int rfl), trivial⟩⟩⟩⟩ rfl (entl_b (use_own rfl) rfl (by simp) (rb_cells ⟨(rn_int rfl), (rn_int rfl), trivial⟩) (entl_b (use_own rfl) rfl (by simp) (rb_cells ⟨(rn_int rfl), rn_nils, trivial⟩) (entl_new (use_own rfl) rfl (Nat.le_of_eq mkl_len) (rcs_bool (fun _ hj => col_mkl (fun (t : Bool) => t) hj) rcs_nil) entl_nil))))
   (fun c2 h => no_some h))
   (fun c1 h => no_some h))
   (fun c0 h => no_some h))
attribute [local irreducible] Int.subNatNat in
set_option maxRecDepth 100000 in
theorem b35_0 (hm : Int) (bs : Int) (Kst : KS) (Kret : KR) (x : St35 ⊕ Rt35) (hS : HS 0 400 ((I35 hm bs)) Kst x) (hR : HR 0 400 ((V35 hm bs)) (fun r => [newL (0 + 1) ((N35 hm bs) r) ++ []]) Kret x) (x0 : Int) (x1 : List Bool) (h : (bif (decide (x0 < (↑(List.length x1) : Int)))
 then (bif (decide (x0 < (0 : Int)))
 then (none)
 else (bif (S.andB IntKind.u64 (S.shrB IntKind.u64 bs x0) (1 : Int) == (1 : Int))
 then (bif (decide ((0 : Int) ≤ x0 ∧ x0 < (↑(List.length x1) : Int)))
 then (bif (decide (Int.toNat x0 < List.length x1))
 then (bif (lim IntKind.i64 (x0 + (1 : Int)))
 then (some (.inl (.h0 (x0 + (1 : Int)) (S.mkl (List.length x1) fun (j : Nat) => bif Nat.beq j (Int.toNat x0) then true else S.at' x1 j))))
 else (none))
 else (none))
 else (none))
 else (bif (decide ((0 : Int) ≤ x0 ∧ x0 < (↑(List.length x1) : Int)))
 then (bif (decide (Int.toNat x0 < List.length x1))
 then (bif (lim IntKind.i64 (x0 + (1 : Int)))
 then (some (.inl (.h0 (x0 + (1 : Int)) (S.mkl (List.length x1) fun (j : Nat) => bif Nat.beq j (Int.toNat x0) then false else S.at' x1 j))))
 else (none))
 else (none))
 else (none))))
 else (bif (decide (0 + List.length x1 ≤ List.length x1 ∧ List.length x1 ≤ 999999))
 then (some (.inr ((↑(List.length x1) : Int), S.posP (fun (j : Nat) => S.at' x1 j) (List.length x1))))
 else (none)) : Option (St35 ⊕ Rt35)) = some x) : T35_0 cond Kst Kret hm bs x0 x1 := by
  unfold T35_0
  exact bif_split h
   (fun c0 h => bif_split h
   (fun c1 h => no_some h)
   (fun c1 h => bif_split h
   (fun c2 h => bif_split h
   (fun c3 h => bif_split h
   (fun c4 h => bif_split h
   (fun c5 h => stop_at hS _ h (fun n => bif Nat.beq n 0 then 0 else bif Nat.beq n 1 then 1 else bif Nat.beq n 2 then 2 else n) rfl rfl rfl ⟨(rn_ptr (use_own rfl) rfl rfl), ⟨(rn_ptr (use_own rfl) rfl rfl), ⟨(rn_own (use_own rfl) rfl mkl_len), ⟨(rn_int rfl), trivial⟩⟩⟩⟩ rfl (entl_b (use_own rfl) rfl (by simp) (rb_cells ⟨(rn_int rfl), (rn_int rfl), trivial⟩) (entl_b (use_own rfl) rfl (by simp) (rb_cells ⟨(rn_int rfl), rn_nils, trivial⟩) (entl_new (use_own rfl) rfl (Nat.le_of_eq mkl_len) (rcs_bool (fun _ hj => col_mkl (fun (t : Bool) => t) hj) rcs_nil) entl_nil))))
   (fun c5 h => no_some h))
   (fun c4 h => no_some h))
   (fun c3 h => no_some h))
   (fun c2 h => bif_split h
   (fun c3 h => bif_split h
   (fun c4 h => bif_split h
   (fun c5 h => stop_at hS _ h (fun n => bif Nat.beq n 0 then 0 else bif Nat.beq n 1 then 1 else bif Nat.beq n 2 then 2 else n) rfl rfl rfl ⟨(rn_ptr (use_own rfl) rfl rfl), ⟨(rn_ptr (use_own rfl) rfl rfl), ⟨(rn_own (use_own rfl) rfl mkl_len), ⟨(rn_int rfl), trivial⟩⟩⟩⟩ rfl (entl_b (use_own rfl) rfl (by simp) (rb_cells ⟨(rn_int rfl), (rn_int rfl), trivial⟩) (entl_b (use_own rfl) rfl (by simp) (rb_cells ⟨(rn_int rfl), rn_nils, trivial⟩) (entl_new (use_own rfl) rfl (Nat.le_of_eq mkl_len) (rcs_bool (fun _ hj => col_mkl (fun (t : Bool) => t) hj) rcs_nil) entl_nil))))
   (fun c5 h => no_some h))
   (fun c4 h => no_some h))
   (fun c3 h => no_some h))))
   (fun c0 h => bif_split h
   (fun c1 h => ret_at hR _ h (fun n => bif Nat.beq n 1 then 4 else n) rfl rfl rfl (rn_agg ⟨(rn_int rfl), (rn_own (use_own rfl) rfl rfl), trivial⟩) rfl (entl_new (use_own rfl) rfl (Nat.le_of_eq rfl) (rcs_int (fun _ _ => rfl) rcs_nil) entl_nil))
   (fun c1 h => no_some h))
theorem a35 (hm : Int) (bs : Int) {r : Rt35} (h : Goes ((q35 hm bs)) ((p35 hm bs)) r) : CallR Try.prog 35 [.agg [.int .u8 hm, .int .u64 bs]] [[]] 0 ((V35 hm bs) r) ((fun r => [newL (0 + 1) ((N35 hm bs) r) ++ []]) r) 400 ∧ ∃ F, Try.prog.funcs[35]? = some F ∧ F.body.isSome = true ∧ (F.name == "runtime.NumGoroutine") = false := by
  refine dec_calls (f := 35) (lo := 0) (hi := 400) (H := [[]]) (args := [.agg [.int .u8 hm, .int .u64 bs]]) Try.envOk Try.mixed xMd_ok ((I35 hm bs)) ((V35 hm bs)) (fun r => [newL (0 + 1) ((N35 hm bs) r) ++ []]) (fn := mkFn Try.f35) (ts := [1, 2, 3, 4]) (n := 400) rfl (by decide) (by simp) (names_of rfl) ?_ ?_ ?_ h
  · intro s; cases s <;> exact ⟨hd_ok _ _, by simp [I35], names_of rfl, Nat.le_of_ble_eq_true rfl⟩
  · intro Kst Kret x hS hR h
    exact Holds.eq (te35 cond Kst Kret hm bs) (be35 hm bs Kst Kret x hS hR h)
  · intro Kst Kret x hS hR s h
    cases s with
    | h0 x0 x1 => exact Holds.eq (t35_0 cond Kst Kret hm bs x0 x1) (b35_0 hm bs Kst Kret x hS hR x0 x1 h)
noncomputable def k35 : Con := ⟨35, [.agg [.plain (.int .u8), .plain (.int .u64)]], fun (x : (Int × Int × Unit) × Unit) => (fun (hm : Int) (bs : Int) => decide (0 ≤ hm ∧ hm ≤ 255)) x.1.1 x.1.2.1, fun (x : (Int × Int × Unit) × Unit) => (fun (hm : Int) (bs : Int) => (V35 hm bs) (((1 + Int.tmod hm 40), S.posP (fun j => S.bitB bs j) (1 + Int.tmod hm 40).toNat))) x.1.1 x.1.2.1, fun (x : (Int × Int × Unit) × Unit) => (fun (hm : Int) (bs : Int) => (N35 hm bs) (((1 + Int.tmod hm 40), S.posP (fun j => S.bitB bs j) (1 + Int.tmod hm 40).toNat))) x.1.1 x.1.2.1, fun _ _ => .dead⟩
theorem s35' (hm bs : Int) (H : Nat) (hH : H ≤ 100) : ∀ (k i : Nat) (L : List Bool), i + k = H → Holds (L = S.mkl H fun j => if j < i then S.bitB bs j else false) → Comes (q35 hm bs) (.h0 (i : Int) L) ((H : Int), S.posP (fun j => S.bitB bs j) H) := by
  intro k
  induction k with
  | zero =>
    intro i L hi eL
    have hl : L.length = H := by rw [eL.get, mkl_len]
    obtain rfl : H = i := by omega
    apply Comes.of
    rw [q35]
    refine goes_no (decide_eq_false (by omega)) ?_
    refine goes_ok (decide_eq_true (by omega)) ?_
    refine goes_inr.mpr ?_
    rw [hl]
    refine Prod.ext rfl ?_
    exact posP_congr fun j hj => by rw [eL.get, at_mkl hj, if_pos hj]
  | succ k ih =>
    intro i L hi eL
    have hl : L.length = H := by rw [eL.get, mkl_len]
    have ih := ih (i + 1)
    cases hb : S.bitB bs i
    all_goals
      have hb' : (S.andB .u64 (S.shrB .u64 bs (i : Int)) 1 == 1) = _ := hb
      have ih := ih _ (by omega) ⟨bit_step hb⟩
      rw [← eL.get] at ih
      apply Comes.of
      rw [q35]
      simp only [Int.toNat_natCast, hb', hl]
      repeat' first
        | with_reducible refine goes_if (fun h => ?_) (fun h => ?_) <;> (try simp only [lim64, imp_false, decide_eq_true_eq, decide_eq_false_iff_not, Int.toNat_natCast, toNat_pred, toNat_succ, Option.getD_some, Option.getD_none, Bool.not_eq_true', Bool.not_eq_false', Bool.and_eq_true, Bool.or_eq_true, Bool.and_eq_false_iff, Bool.or_eq_false_iff, bne_iff_ne, beq_iff_eq, bne_eq_false_iff_eq, beq_eq_false_iff_ne, ne_eq, not_and, Int.not_le, Int.not_lt, ge_iff_le, gt_iff_lt, Nat.not_lt, Nat.not_le, Bool.not_eq_true, Bool.not_eq_false, Bool.true_eq_false, Bool.false_eq_true, not_false_eq_true, not_true_eq_false] at h)
        | exact goes_none.mpr (by omega)
      all_goals first | (exfalso; omega) | exact ih
theorem s35 (hm : Int) (bs : Int) (hp : 0 ≤ hm ∧ hm ≤ 255) : Goes ((q35 hm bs)) ((p35 hm bs)) (((1 + Int.tmod hm 40), S.posP (fun j => S.bitB bs j) (1 + Int.tmod hm 40).toNat)) := by
  have hx : 0 ≤ Int.tmod hm 40 ∧ Int.tmod hm 40 < 40 := ⟨Int.tmod_nonneg _ hp.1, Int.tmod_lt_of_pos _ (by decide)⟩
  have hm' := s35' hm bs (1 + Int.tmod hm 40).toNat (by omega) (1 + Int.tmod hm 40).toNat 0 (S.mkl (1 + Int.tmod hm 40).toNat fun j => false) (Nat.zero_add _) ⟨mkl_congr fun j hj => rfl⟩
  rw [show (((1 + Int.tmod hm 40).toNat : Nat) : Int) = (1 + Int.tmod hm 40) by omega] at hm'
  unfold p35
  repeat' first
    | with_reducible refine goes_if (fun h => ?_) (fun h => ?_) <;> (try simp only [lim64, imp_false, decide_eq_true_eq, decide_eq_false_iff_not, Int.toNat_natCast, toNat_pred, toNat_succ, Option.getD_some, Option.getD_none, Bool.not_eq_true', Bool.not_eq_false', Bool.and_eq_true, Bool.or_eq_true, Bool.and_eq_false_iff, Bool.or_eq_false_iff, bne_iff_ne, beq_iff_eq, bne_eq_false_iff_eq, beq_eq_false_iff_ne, ne_eq, not_and, Int.not_le, Int.not_lt, ge_iff_le, gt_iff_lt, Nat.not_lt, Nat.not_le, Bool.not_eq_true, Bool.not_eq_false, Bool.true_eq_false, Bool.false_eq_true, not_false_eq_true, not_true_eq_false] at h)
    | exact goes_none.mpr (by omega)
  all_goals first | (exfalso; omega) | exact hm'

theorem k35_ok : k35.ok Try.prog := by
  intro x hx
  obtain ⟨⟨hm, bs, _⟩, _⟩ := x
  obtain ⟨h1, h2⟩ := a35 hm bs (s35 hm bs (of_dec hx rfl))
  exact ⟨⟨400, (by decide : 0 + 1 + 1 ≤ 400), h1⟩, h2⟩
noncomputable def xTr (test : Bool → Prop → Prop → Prop) : Ext := consX test [k11, k35, k22, k31, k19, k33]
theorem xTr_ok : ExtOk Try.prog (xTr cond) := consX_ok ⟨k11_ok, k35_ok, k22_ok, k31_ok, k19_ok, k33_ok, trivial⟩

end Go.Ev
namespace Go.Ev
open Go.Proofs
set_option linter.unusedVariables false
set_option linter.unusedSimpArgs false
set_option maxRecDepth 100000

namespace S
def rotB (B : Nat → Bool) (H s : Nat) (j : Nat) : Bool := B ((j + s) % H)
def sum2 (L : List (Int × Int)) : Int := (L.map Prod.snd).foldr (· + ·) 0
end S
theorem cnt_cP {p : Nat → Bool} : ∀ {n : Nat}, S.cnt p n = (((List.range n).countP p : Nat) : Int)
  | 0 => rfl
  | n + 1 => by
    rw [List.range_succ, List.countP_append]
    simp only [S.cnt]
    rw [cnt_cP, List.countP_cons, List.countP_nil]
    split <;> simp [*]
theorem cnt_rot {Q : Nat → Bool} {H s : Nat} (hs : s < H) : S.cnt (fun i => Q ((i + s) % H)) H = S.cnt Q H := by
  rw [cnt_cP, cnt_cP]
  have h := (rot_perm hs).countP_eq Q
  rw [List.countP_map] at h
  have e : (Q ∘ fun k => (s + k) % H) = fun i => Q ((i + s) % H) := by funext i; show Q ((s + i) % H) = _; rw [Nat.add_comm]
  rw [e] at h
  rw [h]
theorem posP_cnt {p : Nat → Bool} : ∀ {n : Nat}, (((S.posP p n).length : Nat) : Int) = S.cnt p n
  | 0 => rfl
  | n + 1 => by
    have ih := posP_cnt (p := p) (n := n)
    simp only [S.posP, S.cnt]
    split
    · rw [snoc_len]; omega
    · exact ih
theorem cnt_cong {p q : Nat → Bool} {n : Nat} (h : ∀ j, j < n → p j = q j) : S.cnt p n = S.cnt q n := cnt_congr h
theorem inB_pos {B : Nat → Bool} {H j : Nat} (hj : j < H) : S.inB (fun q => S.at' (S.posP B H) q) (S.posP B H).length j = B j := by
  rw [Bool.eq_iff_iff, inB_iff]
  constructor
  · rintro ⟨q, hq, e⟩
    obtain ⟨x, h1, h2, h3⟩ := posP_mem (B := B) hq
    obtain rfl : x = j := by have e : S.at' (S.posP B H) q = (j : Int) := e; omega
    exact h3
  · intro h
    obtain ⟨q, h1, h2⟩ := posP_ex hj h
    exact ⟨q, h1, h2⟩
/-- A filling that is turned: each bucket holds what another one held. -/
theorem inB_turn {B : Nat → Bool} {H j : Nat} {v : Int} (hj : j < H) : S.inB (S.turnT (H : Int) v (fun q => S.at' (S.posP B H) q)) (S.posP B H).length j = S.rotB B H ((-v) % (H : Int)).toNat j := by
  have hH : (0 : Int) < (H : Int) := by omega
  have hs0 := Int.emod_nonneg (-v) (show (H : Int) ≠ 0 by omega)
  have hs1 := Int.emod_lt_of_pos (-v) hH
  have key : (((j + ((-v) % (H : Int)).toNat) % H : Nat) : Int) = ((j : Int) - v) % (H : Int) := by
    rw [Int.natCast_emod, Int.natCast_add, Int.toNat_of_nonneg hs0, Int.add_emod_emod, Int.sub_eq_add_neg]
  have hlt : (j + ((-v) % (H : Int)).toNat) % H < H := Nat.mod_lt _ (by omega)
  unfold S.rotB
  generalize (j + ((-v) % (H : Int)).toNat) % H = y at *
  rw [Bool.eq_iff_iff, inB_iff]
  constructor
  · rintro ⟨q, hq, e⟩
    obtain ⟨x, h1, h2, h3⟩ := posP_mem (B := B) hq
    unfold S.turnT at e
    simp only [h2] at e
    rw [mdl_em hH] at e
    have : (x : Int) = (y : Int) := by
      rw [key, ← e, Int.sub_eq_add_neg, Int.emod_add_emod, Int.add_assoc, Int.add_right_neg, Int.add_zero]
      exact (Int.emod_eq_of_lt (by omega) (by omega)).symm
    obtain rfl : x = y := by omega
    exact h3
  · intro h
    obtain ⟨q, h1, h2⟩ := posP_ex hlt h
    refine ⟨q, h1, ?_⟩
    unfold S.turnT
    simp only [h2]
    rw [mdl_em hH, key, Int.emod_add_emod, Int.sub_add_cancel]
    exact Int.emod_eq_of_lt (by omega) (by omega)
theorem rst_rot {B : Nat → Bool} {H s i : Nat} {w : Bool} (hi : i < H) : S.rst (S.rotB B H s) H w i = S.rst B H w ((i + s) % H) ∧ S.rlen (S.rotB B H s) H w i = S.rlen B H w ((i + s) % H) := by
  have e : ∀ n, ((i + n) % H + s) % H = ((i + s) % H + n) % H := fun n => by rw [Nat.mod_add_mod, Nat.mod_add_mod]; congr 1; omega
  constructor
  · unfold S.rst S.rotB
    rw [e]
  · unfold S.rlen S.rotB
    simp only [e]
theorem any_rot {B : Nat → Bool} {H s : Nat} {w : Bool} (hs : s < H) : S.any (fun i => S.rotB B H s i == w) H = S.any (fun i => B i == w) H := by
  rw [Bool.eq_iff_iff, any_iff, any_iff]
  constructor
  · rintro ⟨j, hj, h⟩
    exact ⟨(j + s) % H, Nat.mod_lt _ (by omega), h⟩
  · rintro ⟨j, hj, h⟩
    refine ⟨(j + (H - s)) % H, Nat.mod_lt _ (by omega), ?_⟩
    unfold S.rotB
    rw [Nat.mod_add_mod, show j + (H - s) + s = j + H by omega, Nat.add_mod_right, Nat.mod_eq_of_lt hj]
    exact h
theorem lens_rot {B : Nat → Bool} {H s : Nat} {w : Bool} (hs : s < H) {x : Int × Int} (hx : x ∈ S.runsS (S.rotB B H s) H w) : ∃ y ∈ S.runsS B H w, y.2 = x.2 := by
  unfold S.runsS at hx ⊢
  rw [any_rot hs] at hx
  split at hx
  · rename_i ha
    rw [if_pos ha]
    unfold S.rns at hx ⊢
    rw [List.mem_filterMap] at hx
    obtain ⟨i, hi, hx⟩ := hx
    rw [List.mem_range] at hi
    obtain ⟨e1, e2⟩ := rst_rot (B := B) (s := s) (w := w) hi
    unfold S.rg at hx
    rw [e1, e2] at hx
    split at hx
    · rename_i h0
      cases hx
      refine ⟨((((i + s) % H : Nat) : Int), (S.rlen B H w ((i + s) % H) : Int)), List.mem_filterMap.mpr ⟨(i + s) % H, List.mem_range.mpr (Nat.mod_lt _ (by omega)), ?_⟩, rfl⟩
      unfold S.rg
      rw [if_pos h0]
    · cases hx
  · rename_i ha
    rw [if_neg ha]
    exact ⟨x, hx, rfl⟩
theorem bst_char {L : List (Int × Int)} : ∀ {n : Nat}, (∀ j, j < n → (S.at' L j).2 ≤ (S.bst L n).2) ∧ 0 ≤ (S.bst L n).2 ∧ ((S.bst L n).2 = 0 ∨ ∃ j, j < n ∧ (S.at' L j).2 = (S.bst L n).2)
  | 0 => ⟨fun j hj => absurd hj (Nat.not_lt_zero j), Int.le_refl _, .inl rfl⟩
  | n + 1 => by
    obtain ⟨h1, h2, h3⟩ := bst_char (L := L) (n := n)
    simp only [S.bst]
    split
    · rename_i h
      refine ⟨fun j hj => ?_, by omega, .inr ⟨n, by omega, rfl⟩⟩
      by_cases hn : j = n
      · subst hn; exact Int.le_refl _
      · have := h1 j (by omega); omega
    · rename_i h
      refine ⟨fun j hj => ?_, h2, h3.imp id fun ⟨j, hj, e⟩ => ⟨j, by omega, e⟩⟩
      by_cases hn : j = n
      · subst hn; omega
      · exact h1 j (by omega)
theorem at_mem {L : List (Int × Int)} {j : Nat} (h : j < L.length) : S.at' L j ∈ L := by
  unfold S.at'
  rw [List.getD_eq_getElem?_getD, List.getElem?_eq_getElem h]
  exact List.getElem_mem _
theorem mem_at {L : List (Int × Int)} {x : Int × Int} (h : x ∈ L) : ∃ j, j < L.length ∧ S.at' L j = x := by
  obtain ⟨j, hj, e⟩ := List.mem_iff_getElem.mp h
  refine ⟨j, hj, ?_⟩
  unfold S.at'
  rw [List.getD_eq_getElem?_getD, List.getElem?_eq_getElem hj]
  exact e
theorem bst_le {L M : List (Int × Int)} (h : ∀ x ∈ L, ∃ y ∈ M, y.2 = x.2) : (S.bst L L.length).2 ≤ (S.bst M M.length).2 := by
  obtain ⟨_, _, h3⟩ := bst_char (L := L) (n := L.length)
  obtain ⟨k1, k2, _⟩ := bst_char (L := M) (n := M.length)
  rcases h3 with h3 | ⟨j, hj, e⟩
  · omega
  · obtain ⟨y, hy, e2⟩ := h _ (at_mem hj)
    obtain ⟨q, hq, e3⟩ := mem_at hy
    have := k1 q hq
    rw [e3] at this
    omega
theorem bst_rot {B : Nat → Bool} {H s : Nat} {w : Bool} (hs : s < H) : (S.bst (S.runsS (S.rotB B H s) H w) (S.runsS (S.rotB B H s) H w).length).2 = (S.bst (S.runsS B H w) (S.runsS B H w).length).2 := by
  refine Int.le_antisymm (bst_le fun x hx => lens_rot hs hx) (bst_le fun x hx => ?_)
  have e : S.runsS B H w = S.runsS (S.rotB (S.rotB B H s) H ((H - s) % H)) H w := runsS_congr fun j hj => by
    show _ = B (((j + (H - s) % H) % H + s) % H)
    rw [Nat.mod_add_mod, Nat.add_right_comm, Nat.add_mod_mod, show j + s + (H - s) = j + H by omega, Nat.add_mod_right, Nat.mod_eq_of_lt hj]
  rw [e] at hx
  exact lens_rot (Nat.mod_lt _ (by omega)) hx
theorem sum2_perm {L M : List (Int × Int)} (h : L.Perm M) : S.sum2 L = S.sum2 M := by
  unfold S.sum2
  induction h with
  | nil => rfl
  | cons x _ ih => simp only [List.map_cons, List.foldr_cons, ih]
  | swap x y l => simp only [List.map_cons, List.foldr_cons]; omega
  | trans _ _ h1 h2 => exact h1.trans h2
theorem sum2_app {L : List (Int × Int)} {x : Int × Int} : S.sum2 (L ++ [x]) = S.sum2 L + x.2 := by
  induction L with
  | nil => show x.2 + 0 = 0 + x.2; omega
  | cons a l ih =>
    show a.2 + S.sum2 (l ++ [x]) = a.2 + S.sum2 l + x.2
    rw [ih]; omega
/-- The runs that are complete, and the one that is not, are as long as there are buckets that are w. -/
theorem scan {b : Nat → Bool} {H f : Nat} {w : Bool} (hf : f < H) (hb : b f ≠ w) : ∀ k, 1 ≤ k → k ≤ H + 1 → ∃ n, n < k ∧ (∀ t, k - n ≤ t → t < k → b ((f + t) % H) = w) ∧ b ((f + (k - n - 1)) % H) ≠ w ∧ S.sum2 (S.rF b H w f (k - n)) + n = S.cnt (fun i => b ((f + i) % H) == w) k
  | 0, h, _ => absurd h (by omega)
  | 1, _, _ => by
    refine ⟨0, by omega, fun t h1 h2 => by omega, by rwa [show f + (1 - 0 - 1) = f by omega, Nat.mod_eq_of_lt hf], ?_⟩
    have e0 : (f + 0) % H = f := by rw [Nat.add_zero, Nat.mod_eq_of_lt hf]
    rw [show 1 - 0 = 0 + 1 from rfl, rF_none (rg_off (by rw [e0]; exact hb)), cnt_no (by show (b ((f + 0) % H) == w) = false; rw [e0]; simpa using hb)]
    rfl
  | k + 2, _, hk => by
    obtain ⟨n, h1, h2, h3, h4⟩ := scan hf hb (k + 1) (by omega) (by omega)
    by_cases hc : b ((f + (k + 1)) % H) = w
    · refine ⟨n + 1, by omega, fun t h5 h6 => ?_, by rwa [show k + 2 - (n + 1) - 1 = k + 1 - n - 1 by omega], ?_⟩
      · rcases Nat.lt_or_ge t (k + 1) with h7 | h7
        · exact h2 t (by omega) h7
        · obtain rfl : t = k + 1 := by omega
          exact hc
      · rw [cnt_yes (by show (b ((f + (k + 1)) % H) == w) = true; rw [hc]; simp), show k + 2 - (n + 1) = k + 1 - n by omega, ← h4]
        push_cast
        omega
    · refine ⟨0, by omega, fun t h5 h6 => by omega, by rwa [show k + 2 - 0 - 1 = k + 1 by omega], ?_⟩
      rw [cnt_no (by show (b ((f + (k + 1)) % H) == w) = false; simpa using hc), ← h4]
      rcases Nat.eq_zero_or_pos n with h0 | h0
      · subst h0
        have e : S.rF b H w f (k + 2 - 0) = S.rF b H w f (k + 1 - 0) := rF_none (rg_off hc)
        rw [e]
      · have hkH : k + 1 ≤ H := by omega
        have g := rg_on (b := b) (w := w) (f := f) (s := k + 1 - n) (n := n) (by omega) (by omega) h3 h0 (fun t h5 h6 => h2 t h5 (by omega)) (by rwa [show k + 1 - n + n = k + 1 by omega]) (by
          rcases Nat.lt_or_ge n H with h5 | h5
          · exact h5
          · omega)
        have g2 := rF_skip (b := b) (H := H) (w := w) (f := f) (m := k + 1 - n + 1) (n := n) (fun t h5 h6 => by
          rcases Nat.lt_or_ge t (k + 1) with h7 | h7
          · exact rg_mid (by omega) (by omega) (h2 _ (by omega) (by omega))
          · obtain rfl : t = k + 1 := by omega
            exact rg_off hc)
        rw [show k + 2 - 0 = k + 1 - n + 1 + n by omega, g2, rF_succ, g]
        show S.sum2 (S.rF b H w f (k + 1 - n) ++ [_]) + _ = _
        rw [sum2_app]
        show _ + (n : Int) + ((0 : Nat) : Int) = _
        omega
theorem sum_runs {b : Nat → Bool} {H : Nat} {w : Bool} : S.sum2 (S.runsS b H w) = S.cnt (fun i => b i == w) H := by
  unfold S.runsS
  by_cases ha : S.any (fun i => b i == !w) H = true
  · rw [if_pos ha]
    obtain ⟨f, hf, hb⟩ := any_iff.mp ha
    have hb : b f ≠ w := by
      have : b f = !w := by simpa using hb
      rw [this]; cases w <;> simp
    obtain ⟨n, h1, h2, h3, h4⟩ := scan hf hb (H + 1) (by omega) (Nat.le_refl _)
    have eH : (f + H) % H = f := by rw [Nat.add_mod_right, Nat.mod_eq_of_lt hf]
    have hn : n = 0 := by
      rcases Nat.eq_zero_or_pos n with h | h
      · exact h
      · have := h2 H (by omega) (by omega)
        rw [eH] at this
        exact absurd this hb
    subst hn
    rw [Nat.sub_zero, rF_none (rg_off (by rw [eH]; exact hb)), cnt_no (by show (b ((f + H) % H) == w) = false; rw [eH]; simpa using hb)] at h4
    rw [← sum2_perm (rF_perm hf), show S.sum2 (S.rF b H w f H) = S.sum2 (S.rF b H w f H) + ((0 : Nat) : Int) by omega, h4]
    rw [← cnt_rot (Q := fun i => b i == w) hf]
    exact cnt_congr fun j hj => by show (b ((f + j) % H) == w) = (b ((j + f) % H) == w); rw [Nat.add_comm]
  · rw [if_neg ha]
    have ha : ∀ j, j < H → (b j == !w) = false := any_no.mp (by simpa using ha)
    have e : S.cnt (fun i => b i == w) H = S.cnt (fun _ => true) H := cnt_congr fun j hj => by
      have := ha j hj
      show (b j == w) = true
      cases h1 : b j <;> cases h2 : w <;> simp_all
    have e2 : ∀ n : Nat, S.cnt (fun _ => true) n = (n : Int) := fun n => by
      induction n with
      | zero => rfl
      | succ n ih => rw [cnt_yes rfl, ih]; omega
    rw [e, e2]
    show (H : Int) + 0 = _
    omega

end Go.Ev
namespace Go.Ev
open Go.Proofs
set_option linter.unusedVariables false
set_option linter.unusedSimpArgs false
set_option maxRecDepth 100000

section
variable {H : Nat} {a c : Nat → Bool} (h1 : 1 ≤ (H : Int) ∧ (H : Int) ≤ 2000)
include h1
theorem filP : S.filE (H : Int) (S.posP a H).length (fun j => S.at' (S.posP a H) j) = 0 := by
  have e := fil_pos (h := (H : Int)) (B := a) h1
  rwa [Int.toNat_natCast] at e
theorem traP : S.traS (H : Int) (S.posP a H).length (fun j => S.at' (S.posP a H) j) = (0, S.runsS a H true) := by
  unfold S.traS
  rw [if_pos (filP h1), Int.toNat_natCast]
  exact congrArg (fun x : List (Int × Int) => ((0 : Int), x)) (runsS_congr fun j hj => inB_pos hj)
theorem turnP {v : Int} (hv : -1099511627776 ≤ v ∧ v ≤ 1099511627776) : S.turnS (H : Int) (S.posP a H).length (fun j => S.at' (S.posP a H) j) v = ((H : Int), 0, S.posP (S.rotB a H ((-v) % (H : Int)).toNat) H) := by
  unfold S.turnS
  rw [if_pos (filP h1), if_pos hv, Int.toNat_natCast]
  exact congrArg (fun x : List Int => ((H : Int), (0 : Int), x)) (posP_congr fun j hj => inB_turn hj)
theorem gapP : (S.gapS (H : Int) (S.posP a H).length (fun j => S.at' (S.posP a H) j)).2 = if ((S.posP a H).length : Int) = (H : Int) then (0, 10) else ((S.bst (S.runsS a H false) (S.runsS a H false).length).2, 0) := by
  have er : S.runsS (fun j => S.inB (fun j => S.at' (S.posP a H) j) (S.posP a H).length j) H false = S.runsS a H false := runsS_congr fun j hj => inB_pos hj
  unfold S.gapS
  rw [if_pos (filP h1), Int.toNat_natCast, er]
  split <;> rfl
theorem colP : S.colS (H : Int) (S.posP a H).length (fun j => S.at' (S.posP a H) j) (H : Int) (S.posP c H).length (fun j => S.at' (S.posP c H) j) 0 = (S.cnt (fun i => a i && c (S.mdl (0 - (i : Int)) (H : Int)).toNat) H, 0) := by
  unfold S.colS
  rw [if_pos (filP h1), if_pos (filP h1), if_pos ⟨rfl, Int.le_refl _, by omega⟩, Int.toNat_natCast]
  refine congrArg (fun x : Int => (x, (0 : Int))) (cnt_congr fun j hj => ?_)
  have h2 := mdl_ok (n := 0 - (j : Int)) (h := (H : Int)) (by omega)
  show (S.inB _ _ j && S.inB _ _ (S.mdl (0 - (j : Int)) (H : Int)).toNat) = _
  rw [inB_pos hj, inB_pos (by omega)]
end
theorem rot_lt {H : Nat} {v : Int} (h : 1 ≤ H) : (v % (H : Int)).toNat < H := by
  have h1 := Int.emod_nonneg v (show (H : Int) ≠ 0 by omega)
  have h2 := Int.emod_lt_of_pos v (show (0 : Int) < H by omega)
  omega
theorem len_rot {B : Nat → Bool} {H s : Nat} (hs : s < H) : (S.posP (S.rotB B H s) H).length = (S.posP B H).length := by
  have e1 := posP_cnt (p := S.rotB B H s) (n := H)
  have e2 := posP_cnt (p := B) (n := H)
  have e3 : S.cnt (S.rotB B H s) H = S.cnt B H := cnt_rot (Q := B) hs
  omega
theorem gap_rot {B : Nat → Bool} {H s : Nat} (h1 : 1 ≤ (H : Int) ∧ (H : Int) ≤ 2000) (hs : s < H) : (S.gapS (H : Int) (S.posP (S.rotB B H s) H).length (fun j => S.at' (S.posP (S.rotB B H s) H) j)).2 = (S.gapS (H : Int) (S.posP B H).length (fun j => S.at' (S.posP B H) j)).2 := by
  rw [gapP h1, gapP h1, bst_rot hs, len_rot hs]
theorem em_sub {x y n : Int} : (x - y % n) % n = (x - y) % n := by rw [Int.sub_emod, Int.emod_emod, ← Int.sub_emod]
/-- Two fillings that turn against each other collide as often. -/
theorem col_rot {a c : Nat → Bool} {H : Nat} (h1 : 1 ≤ H) {v : Int} : S.cnt (fun i => S.rotB a H ((-v) % (H : Int)).toNat i && S.rotB c H ((- -v) % (H : Int)).toNat (S.mdl (0 - (i : Int)) (H : Int)).toNat) H = S.cnt (fun i => a i && c (S.mdl (0 - (i : Int)) (H : Int)).toNat) H := by
  rw [← cnt_rot (Q := fun i => a i && c (S.mdl (0 - (i : Int)) (H : Int)).toNat) (s := ((-v) % (H : Int)).toNat) (rot_lt h1)]
  refine cnt_congr fun i hi => ?_
  have hH : (0 : Int) < (H : Int) := by omega
  have k : ((S.mdl (0 - (i : Int)) (H : Int)).toNat + ((- -v) % (H : Int)).toNat) % H = (S.mdl (0 - (((i + ((-v) % (H : Int)).toNat) % H : Nat) : Int)) (H : Int)).toNat := by
    apply Int.ofNat.inj
    show ((((S.mdl (0 - (i : Int)) (H : Int)).toNat + ((- -v) % (H : Int)).toNat) % H : Nat) : Int) = (((S.mdl (0 - (((i + ((-v) % (H : Int)).toNat) % H : Nat) : Int)) (H : Int)).toNat : Nat) : Int)
    rw [Int.toNat_of_nonneg (mdl_ok hH).1, Int.natCast_emod, Int.natCast_add, Int.toNat_of_nonneg (mdl_ok hH).1, Int.toNat_of_nonneg (Int.emod_nonneg _ (by omega)), mdl_em hH, mdl_em hH, ← Int.add_emod, Int.natCast_emod, em_sub, Int.natCast_add, Int.toNat_of_nonneg (Int.emod_nonneg _ (by omega)), ← Int.sub_sub, em_sub]
    exact congrArg (fun x : Int => x % (H : Int)) Int.sub_eq_add_neg.symm
  show (a ((i + ((-v) % (H : Int)).toNat) % H) && c (((S.mdl (0 - (i : Int)) (H : Int)).toNat + ((- -v) % (H : Int)).toNat) % H)) = _
  rw [k]
theorem runsS_mem {b : Nat → Bool} {H : Nat} {w : Bool} {x : Int × Int} (h : x ∈ S.runsS b H w) : 0 ≤ x.2 ∧ x.2 ≤ H := by
  unfold S.runsS at h
  split at h
  · exact (rns_mem h).2.2
  · obtain rfl := List.mem_singleton.mp h
    exact ⟨Int.natCast_nonneg _, Int.le_refl _⟩
theorem sum2_take {L : List (Int × Int)} {i : Nat} (h : i < L.length) : S.sum2 (L.take (i + 1)) = S.sum2 (L.take i) + (S.at' L i).2 := by
  have e : L.take (i + 1) = L.take i ++ [S.at' L i] := by
    rw [List.take_add_one, List.getElem?_eq_getElem h]
    unfold S.at'
    rw [List.getD_eq_getElem?_getD, List.getElem?_eq_getElem h]; rfl
  rw [e, sum2_app]
theorem len_sum {B : Nat → Bool} {H : Nat} : S.sum2 (S.runsS B H true) = ((S.posP B H).length : Int) := by
  rw [sum_runs, posP_cnt]
  exact cnt_congr fun j hj => by show (B j == true) = B j; cases B j <;> rfl

end Go.Ev
namespace Go.Ev
open Go.Proofs
set_option linter.unusedVariables false
set_option linter.unusedSimpArgs false
set_option maxRecDepth 100000
noncomputable abbrev c9_0_0 (hm : Int) (by_ : Int) (x2 : List Int) (x3 : List Int) :=
 S.colS
 (Prod.fst
 (S.turnS ((1 : Int) + Int.tmod hm (40 : Int)) (List.length x2) (fun (j : Nat) => S.at' x2 j) by_))
 (List.length
 (Prod.snd
 (Prod.snd
 (S.turnS ((1 : Int) + Int.tmod hm (40 : Int)) (List.length x2) (fun (j : Nat) => S.at' x2 j)
 by_))))
 (fun (j : Nat) =>
 S.at'
 (Prod.snd
 (Prod.snd
 (S.turnS ((1 : Int) + Int.tmod hm (40 : Int)) (List.length x2) (fun (j : Nat) => S.at' x2 j)
 by_)))
 j)
 (Prod.fst
 (S.turnS ((1 : Int) + Int.tmod hm (40 : Int)) (List.length x3) (fun (j : Nat) => S.at' x3 j)
 (-by_)))
 (List.length
 (Prod.snd
 (Prod.snd
 (S.turnS ((1 : Int) + Int.tmod hm (40 : Int)) (List.length x3) (fun (j : Nat) => S.at' x3 j)
 (-by_)))))
 (fun (j : Nat) =>
 S.at'
 (Prod.snd
 (Prod.snd
 (S.turnS ((1 : Int) + Int.tmod hm (40 : Int)) (List.length x3) (fun (j : Nat) => S.at' x3 j)
 (-by_))))
 j)
 (0 : Int)
noncomputable abbrev c9_0_1 (hm : Int) (by_ : Int) (x2 : List Int) :=
 Prod.snd
 (Prod.snd
 (S.turnS ((1 : Int) + Int.tmod hm (40 : Int)) (List.length x2) (fun (j : Nat) => S.at' x2 j)
 by_))
inductive St9 where
  | h0 (x0 : Int) (x1 : Int) (x2 : List Int) (x3 : List Int) (x4 : List (Int × Int))
abbrev Rt9 := Bool
noncomputable def V9 (hm : Int) (bs : Int) (ot : Int) (by_ : Int) (r : Rt9) : PV := PV.bool r
noncomputable def N9 (hm : Int) (bs : Int) (ot : Int) (by_ : Int) (r : Rt9) : List Blk := []
noncomputable def I9 (hm : Int) (bs : Int) (ot : Int) (by_ : Int) : St9 → Hd
  | .h0 x0 x1 x2 x3 x4 => ⟨hd Try.f9 0, [PV.int IntKind.i16 by_, PV.ptr (PA.mk (0) (0) (0) (0)),
 PV.ptr (PA.mk (2) (0) (0) (0)),
 PV.int IntKind.i64
 (Prod.fst
 (S.traS ((1 : Int) + Int.tmod hm (40 : Int))
 (List.length
 (S.posP (fun (j : Nat) => S.bitB bs j) (Int.toNat ((1 : Int) + Int.tmod hm (40 : Int)))))
 fun (j : Nat) =>
 S.at' (S.posP (fun (j : Nat) => S.bitB bs j) (Int.toNat ((1 : Int) + Int.tmod hm (40 : Int))))
 j)),
 PV.int IntKind.i64 x0, PV.own (4) (2) (List.length x4),
 PV.int IntKind.i64
 (↑(List.length
 (Prod.snd
 (S.traS ((1 : Int) + Int.tmod hm (40 : Int))
 (List.length
 (S.posP (fun (j : Nat) => S.bitB bs j) (Int.toNat ((1 : Int) + Int.tmod hm (40 : Int)))))
 fun (j : Nat) =>
 S.at'
 (S.posP (fun (j : Nat) => S.bitB bs j) (Int.toNat ((1 : Int) + Int.tmod hm (40 : Int))))
 j))) :
 Int),
 PV.int IntKind.i64 x1], [[(0, (true, Blk.cells
 [PV.int IntKind.i64 ((1 : Int) + Int.tmod hm (40 : Int)),
 PV.own (1) (1) (List.length x2)])), (1, (true, Blk.cols (List.length x2) [Col.int IntKind.i64 fun (j : Nat) => S.at' x2 j])), (2, (true, Blk.cells
 [PV.int IntKind.i64 ((1 : Int) + Int.tmod hm (40 : Int)),
 PV.own (3) (1) (List.length x3)])), (3, (true, Blk.cols (List.length x3) [Col.int IntKind.i64 fun (j : Nat) => S.at' x3 j])), (4, (true, Blk.cols (List.length x4)
 [Col.int IntKind.i64 fun (j : Nat) => (S.at' x4 j).1,
 Col.int IntKind.i64 fun (j : Nat) => (S.at' x4 j).2]))], []], 5⟩
noncomputable def q9 (hm : Int) (bs : Int) (ot : Int) (by_ : Int) : St9 → Option (St9 ⊕ Rt9)
  | .h0 x0 x1 x2 x3 x4 => bif (decide
 (x1 <
 (↑(List.length
 (Prod.snd
 (S.traS ((1 : Int) + Int.tmod hm (40 : Int))
 (List.length
 (S.posP (fun (j : Nat) => S.bitB bs j) (Int.toNat ((1 : Int) + Int.tmod hm (40 : Int)))))
 fun (j : Nat) =>
 S.at'
 (S.posP (fun (j : Nat) => S.bitB bs j) (Int.toNat ((1 : Int) + Int.tmod hm (40 : Int))))
 j))) :
 Int)))
 then (bif (decide ((0 : Int) ≤ x1 ∧ x1 < (↑(List.length x4) : Int)))
 then (bif (decide (Int.toNat x1 < List.length x4))
 then (bif (lim IntKind.i64 (x0 + (S.at' x4 (Int.toNat x1)).2))
 then (bif (lim IntKind.i64 (x1 + (1 : Int)))
 then (some (.inl (.h0 (x0 + (S.at' x4 (Int.toNat x1)).2) (x1 + (1 : Int)) (x2) (x3) (x4))))
 else (none))
 else (none))
 else (none))
 else (none))
 else (bif (lim IntKind.i64 by_)
 then (bif (decide (0 + List.length x2 ≤ List.length x2 ∧ List.length x2 ≤ 1000000))
 then (bif (lim IntKind.i64 (-by_))
 then (bif (decide (0 + List.length x3 ≤ List.length x3 ∧ List.length x3 ≤ 1000000))
 then (bif (decide
 (0 +
 List.length
 (c9_0_1 hm by_ x2) ≤
 List.length
 (c9_0_1 hm by_ x2) ∧
 List.length
 (c9_0_1 hm by_ x2) ≤
 1000000))
 then (bif (decide
 (0 + List.length x2 ≤ List.length x2 ∧
 List.length x2 ≤ 1000000 ∧ 0 + List.length x3 ≤ List.length x3 ∧ List.length x3 ≤ 1000000))
 then (bif (decide
 (0 +
 List.length
 (c9_0_1 hm by_ x2) ≤
 List.length
 (c9_0_1 hm by_ x2) ∧
 List.length
 (c9_0_1 hm by_ x2) ≤
 1000000 ∧
 0 +
 List.length
 (Prod.snd
 (Prod.snd
 (S.turnS ((1 : Int) + Int.tmod hm (40 : Int)) (List.length x3)
 (fun (j : Nat) => S.at' x3 j) (-by_)))) ≤
 List.length
 (Prod.snd
 (Prod.snd
 (S.turnS ((1 : Int) + Int.tmod hm (40 : Int)) (List.length x3) (fun (j : Nat) => S.at' x3 j)
 (-by_)))) ∧
 List.length
 (Prod.snd
 (Prod.snd
 (S.turnS ((1 : Int) + Int.tmod hm (40 : Int)) (List.length x3) (fun (j : Nat) => S.at' x3 j)
 (-by_)))) ≤
 1000000))
 then (bif (Prod.fst
 (S.traS ((1 : Int) + Int.tmod hm (40 : Int))
 (List.length (S.posP (fun (j : Nat) => S.bitB bs j) (Int.toNat ((1 : Int) + Int.tmod hm (40 : Int)))))
 fun (j : Nat) =>
 S.at' (S.posP (fun (j : Nat) => S.bitB bs j) (Int.toNat ((1 : Int) + Int.tmod hm (40 : Int))))
 j) ==
 (0 : Int))
 then (bif (x0 == (↑(List.length x2) : Int))
 then (bif (Prod.fst
 (Prod.snd
 (S.turnS ((1 : Int) + Int.tmod hm (40 : Int)) (List.length x2) (fun (j : Nat) => S.at' x2 j) by_)) ==
 (0 : Int))
 then (bif (Prod.fst
 (Prod.snd
 (S.turnS ((1 : Int) + Int.tmod hm (40 : Int)) (List.length x3) (fun (j : Nat) => S.at' x3 j)
 (-by_))) ==
 (0 : Int))
 then (bif (Prod.snd
 ((S.gapS ((1 : Int) + Int.tmod hm (40 : Int)) (List.length x2) fun (j : Nat) => S.at' x2 j).2) ==
 Prod.snd
 (Prod.snd
 (S.gapS
 (Prod.fst
 (S.turnS ((1 : Int) + Int.tmod hm (40 : Int)) (List.length x2) (fun (j : Nat) => S.at' x2 j) by_))
 (List.length
 (c9_0_1 hm by_ x2))
 fun (j : Nat) =>
 S.at'
 (c9_0_1 hm by_ x2)
 j)))
 then (bif (Prod.fst
 ((S.gapS ((1 : Int) + Int.tmod hm (40 : Int)) (List.length x2) fun (j : Nat) => S.at' x2 j).2) ==
 Prod.fst
 (Prod.snd
 (S.gapS
 (Prod.fst
 (S.turnS ((1 : Int) + Int.tmod hm (40 : Int)) (List.length x2) (fun (j : Nat) => S.at' x2 j) by_))
 (List.length
 (c9_0_1 hm by_ x2))
 fun (j : Nat) =>
 S.at'
 (c9_0_1 hm by_ x2)
 j)))
 then (bif (Prod.snd
 (S.colS ((1 : Int) + Int.tmod hm (40 : Int)) (List.length x2) (fun (j : Nat) => S.at' x2 j)
 ((1 : Int) + Int.tmod hm (40 : Int)) (List.length x3) (fun (j : Nat) => S.at' x3 j) (0 : Int)) ==
 (0 : Int))
 then (bif (Prod.snd
 (c9_0_0 hm by_ x2 x3) ==
 (0 : Int))
 then (bif (Prod.fst
 (S.colS ((1 : Int) + Int.tmod hm (40 : Int)) (List.length x2) (fun (j : Nat) => S.at' x2 j)
 ((1 : Int) + Int.tmod hm (40 : Int)) (List.length x3) (fun (j : Nat) => S.at' x3 j) (0 : Int)) ==
 Prod.fst
 (c9_0_0 hm by_ x2 x3))
 then (some (.inr (true)))
 else (some (.inr (false))))
 else (some (.inr (false))))
 else (some (.inr (false))))
 else (some (.inr (false))))
 else (some (.inr (false))))
 else (some (.inr (false))))
 else (some (.inr (false))))
 else (some (.inr (false))))
 else (some (.inr (false))))
 else (none))
 else (none))
 else (none))
 else (none))
 else (none))
 else (none))
 else (none))
noncomputable def p9 (hm : Int) (bs : Int) (ot : Int) (by_ : Int) : Option (St9 ⊕ Rt9) := bif (decide ((0 : Int) ≤ hm ∧ hm ≤ (255 : Int)))
 then (bif (decide
 (0 +
 List.length
 (S.posP (fun (j : Nat) => S.bitB bs j) (Int.toNat ((1 : Int) + Int.tmod hm (40 : Int)))) ≤
 List.length (S.posP (fun (j : Nat) => S.bitB bs j) (Int.toNat ((1 : Int) + Int.tmod hm (40 : Int)))) ∧
 List.length (S.posP (fun (j : Nat) => S.bitB bs j) (Int.toNat ((1 : Int) + Int.tmod hm (40 : Int)))) ≤
 1000000))
 then (some (.inl (.h0 ((0 : Int)) ((0 : Int)) (S.posP (fun (j : Nat) => S.bitB bs j) (Int.toNat ((1 : Int) + Int.tmod hm (40 : Int)))) (S.posP (fun (j : Nat) => S.bitB ot j) (Int.toNat ((1 : Int) + Int.tmod hm (40 : Int)))) (Prod.snd
 (S.traS ((1 : Int) + Int.tmod hm (40 : Int))
 (List.length (S.posP (fun (j : Nat) => S.bitB bs j) (Int.toNat ((1 : Int) + Int.tmod hm (40 : Int)))))
 fun (j : Nat) =>
 S.at' (S.posP (fun (j : Nat) => S.bitB bs j) (Int.toNat ((1 : Int) + Int.tmod hm (40 : Int)))) j)))))
 else (none))
 else (none)
noncomputable def Te9 (test : Bool → Prop → Prop → Prop) (Kst : KS) (Kret : KR) (hm : Int) (bs : Int) (ot : Int) (by_ : Int) : Prop :=
  test (true)
 (test (true)
 (test (decide ((0 : Int) ≤ hm ∧ hm ≤ (255 : Int)))
 (test (decide ((0 : Int) ≤ hm ∧ hm ≤ (255 : Int)))
 (test (decide
 (0 +
 List.length
 (S.posP (fun (j : Nat) => S.bitB bs j) (Int.toNat ((1 : Int) + Int.tmod hm (40 : Int)))) ≤
 List.length (S.posP (fun (j : Nat) => S.bitB bs j) (Int.toNat ((1 : Int) + Int.tmod hm (40 : Int)))) ∧
 List.length (S.posP (fun (j : Nat) => S.bitB bs j) (Int.toNat ((1 : Int) + Int.tmod hm (40 : Int)))) ≤
 1000000))
 (Kst (hd Try.f9 0) ([PV.int IntKind.i16 by_, PV.ptr (PA.mk (4) (0) (0) (0)),
 PV.ptr (PA.mk (7) (0) (0) (0)),
 PV.int IntKind.i64
 (Prod.fst
 (S.traS ((1 : Int) + Int.tmod hm (40 : Int))
 (List.length
 (S.posP (fun (j : Nat) => S.bitB bs j) (Int.toNat ((1 : Int) + Int.tmod hm (40 : Int)))))
 fun (j : Nat) =>
 S.at' (S.posP (fun (j : Nat) => S.bitB bs j) (Int.toNat ((1 : Int) + Int.tmod hm (40 : Int))))
 j)),
 PV.int IntKind.i64 (0 : Int),
 PV.own (9) (2)
 (List.length
 (Prod.snd
 (S.traS ((1 : Int) + Int.tmod hm (40 : Int))
 (List.length
 (S.posP (fun (j : Nat) => S.bitB bs j) (Int.toNat ((1 : Int) + Int.tmod hm (40 : Int)))))
 fun (j : Nat) =>
 S.at'
 (S.posP (fun (j : Nat) => S.bitB bs j) (Int.toNat ((1 : Int) + Int.tmod hm (40 : Int)))) j))),
 PV.int IntKind.i64
 (↑(List.length
 (Prod.snd
 (S.traS ((1 : Int) + Int.tmod hm (40 : Int))
 (List.length
 (S.posP (fun (j : Nat) => S.bitB bs j) (Int.toNat ((1 : Int) + Int.tmod hm (40 : Int)))))
 fun (j : Nat) =>
 S.at'
 (S.posP (fun (j : Nat) => S.bitB bs j) (Int.toNat ((1 : Int) + Int.tmod hm (40 : Int))))
 j))) :
 Int),
 PV.int IntKind.i64 (0 : Int)]) ([[(9, true,
 Blk.cols
 (List.length
 (Prod.snd
 (S.traS ((1 : Int) + Int.tmod hm (40 : Int))
 (List.length
 (S.posP (fun (j : Nat) => S.bitB bs j) (Int.toNat ((1 : Int) + Int.tmod hm (40 : Int)))))
 fun (j : Nat) =>
 S.at'
 (S.posP (fun (j : Nat) => S.bitB bs j) (Int.toNat ((1 : Int) + Int.tmod hm (40 : Int))))
 j)))
 [Col.int IntKind.i64 fun (j : Nat) =>
 Prod.fst
 (S.at'
 (Prod.snd
 (S.traS ((1 : Int) + Int.tmod hm (40 : Int))
 (List.length
 (S.posP (fun (j : Nat) => S.bitB bs j)
 (Int.toNat ((1 : Int) + Int.tmod hm (40 : Int)))))
 fun (j : Nat) =>
 S.at'
 (S.posP (fun (j : Nat) => S.bitB bs j)
 (Int.toNat ((1 : Int) + Int.tmod hm (40 : Int))))
 j))
 j),
 Col.int IntKind.i64 fun (j : Nat) =>
 Prod.snd
 (S.at'
 (Prod.snd
 (S.traS ((1 : Int) + Int.tmod hm (40 : Int))
 (List.length
 (S.posP (fun (j : Nat) => S.bitB bs j)
 (Int.toNat ((1 : Int) + Int.tmod hm (40 : Int)))))
 fun (j : Nat) =>
 S.at'
 (S.posP (fun (j : Nat) => S.bitB bs j)
 (Int.toNat ((1 : Int) + Int.tmod hm (40 : Int))))
 j))
 j)]),
 (7, true,
 Blk.cells
 [PV.int IntKind.i64 ((1 : Int) + Int.tmod hm (40 : Int)),
 PV.own (6) (1)
 (List.length
 (S.posP (fun (j : Nat) => S.bitB ot j) (Int.toNat ((1 : Int) + Int.tmod hm (40 : Int)))))]),
 (4, true,
 Blk.cells
 [PV.int IntKind.i64 ((1 : Int) + Int.tmod hm (40 : Int)),
 PV.own (3) (1)
 (List.length
 (S.posP (fun (j : Nat) => S.bitB bs j) (Int.toNat ((1 : Int) + Int.tmod hm (40 : Int)))))]),
 (3, true,
 Blk.cols
 (List.length
 (S.posP (fun (j : Nat) => S.bitB bs j) (Int.toNat ((1 : Int) + Int.tmod hm (40 : Int)))))
 [Col.int IntKind.i64 fun (j : Nat) =>
 S.at'
 (S.posP (fun (j : Nat) => S.bitB bs j) (Int.toNat ((1 : Int) + Int.tmod hm (40 : Int)))) j]),
 (6, true,
 Blk.cols
 (List.length
 (S.posP (fun (j : Nat) => S.bitB ot j) (Int.toNat ((1 : Int) + Int.tmod hm (40 : Int)))))
 [Col.int IntKind.i64 fun (j : Nat) =>
 S.at'
 (S.posP (fun (j : Nat) => S.bitB ot j) (Int.toNat ((1 : Int) + Int.tmod hm (40 : Int)))) j])]]) (10))
 (False))
 (False))
 (False))
 (Kret (PV.tf false) ([[]]) (2)))
 (False)
set_option maxRecDepth 100000 in
theorem te9 (test : Bool → Prop → Prop → Prop) (Kst : KS) (Kret : KR) (hm : Int) (bs : Int) (ot : Int) (by_ : Int) : run test Try.env true (xTr test) true 400 ⟨9, [.cd (mkFn Try.f9).body], argT 0 [.agg [.int .u8 hm, .int .u64 bs], .int .u64 ot, .int .i16 by_], [[], []], 0⟩ (proj 0 [2, 7, 8, 10, 11, 41, 42, 43] Kst Kret) =
  Te9 test Kst Kret hm bs ot by_ := by kernel_rfl
noncomputable def T9_0 (test : Bool → Prop → Prop → Prop) (Kst : KS) (Kret : KR) (hm : Int) (bs : Int) (ot : Int) (by_ : Int) (x0 : Int) (x1 : Int) (x2 : List Int) (x3 : List Int) (x4 : List (Int × Int)) : Prop :=
  test (decide
 (x1 <
 (↑(List.length
 (Prod.snd
 (S.traS ((1 : Int) + Int.tmod hm (40 : Int))
 (List.length
 (S.posP (fun (j : Nat) => S.bitB bs j) (Int.toNat ((1 : Int) + Int.tmod hm (40 : Int)))))
 fun (j : Nat) =>
 S.at'
 (S.posP (fun (j : Nat) => S.bitB bs j) (Int.toNat ((1 : Int) + Int.tmod hm (40 : Int))))
 j))) :
 Int)))
 (test (decide ((0 : Int) ≤ x1 ∧ x1 < (↑(List.length x4) : Int)))
 (test (decide (Int.toNat x1 < List.length x4))
 (test (decide (Int.toNat x1 < List.length x4))
 (test (lim IntKind.i64 (x0 + (S.at' x4 (Int.toNat x1)).2))
 (test (lim IntKind.i64 (x1 + (1 : Int)))
 (Kst (hd Try.f9 0) ([PV.int IntKind.i16 by_, PV.ptr (PA.mk (0) (0) (0) (0)),
 PV.ptr (PA.mk (2) (0) (0) (0)),
 PV.int IntKind.i64
 (Prod.fst
 (S.traS ((1 : Int) + Int.tmod hm (40 : Int))
 (List.length
 (S.posP (fun (j : Nat) => S.bitB bs j) (Int.toNat ((1 : Int) + Int.tmod hm (40 : Int)))))
 fun (j : Nat) =>
 S.at' (S.posP (fun (j : Nat) => S.bitB bs j) (Int.toNat ((1 : Int) + Int.tmod hm (40 : Int))))
 j)),
 PV.int IntKind.i64 (x0 + (S.at' x4 (Int.toNat x1)).2),
 PV.own (4) (2) (List.length x4),
 PV.int IntKind.i64
 (↑(List.length
 (Prod.snd
 (S.traS ((1 : Int) + Int.tmod hm (40 : Int))
 (List.length
 (S.posP (fun (j : Nat) => S.bitB bs j) (Int.toNat ((1 : Int) + Int.tmod hm (40 : Int)))))
 fun (j : Nat) =>
 S.at'
 (S.posP (fun (j : Nat) => S.bitB bs j) (Int.toNat ((1 : Int) + Int.tmod hm (40 : Int))))
 j))) :
 Int),
 PV.int IntKind.i64 (x1 + (1 : Int))]) ([[(4, true,
 Blk.cols (List.length x4)
 [Col.int IntKind.i64 fun (j : Nat) => (S.at' x4 j).1,
 Col.int IntKind.i64 fun (j : Nat) => (S.at' x4 j).2]),
 (2, true,
 Blk.cells
 [PV.int IntKind.i64 ((1 : Int) + Int.tmod hm (40 : Int)),
 PV.own (3) (1) (List.length x3)]),
 (0, true,
 Blk.cells
 [PV.int IntKind.i64 ((1 : Int) + Int.tmod hm (40 : Int)),
 PV.own (1) (1) (List.length x2)]),
 (1, true,
 Blk.cols (List.length x2) [Col.int IntKind.i64 fun (j : Nat) => S.at' x2 j]),
 (3, true,
 Blk.cols (List.length x3) [Col.int IntKind.i64 fun (j : Nat) => S.at' x3 j])]]) (6))
 (False))
 (False))
 (False))
 (False))
 (False))
 (test (lim IntKind.i64 by_)
 (test (decide (0 + List.length x2 ≤ List.length x2 ∧ List.length x2 ≤ 1000000))
 (test (lim IntKind.i64 by_)
 (test (lim IntKind.i64 (-by_))
 (test (decide (0 + List.length x3 ≤ List.length x3 ∧ List.length x3 ≤ 1000000))
 (test (decide (0 + List.length x2 ≤ List.length x2 ∧ List.length x2 ≤ 1000000))
 (test (decide
 (0 +
 List.length
 (c9_0_1 hm by_ x2) ≤
 List.length
 (c9_0_1 hm by_ x2) ∧
 List.length
 (c9_0_1 hm by_ x2) ≤
 1000000))
 (test (decide
 (0 + List.length x2 ≤ List.length x2 ∧
 List.length x2 ≤ 1000000 ∧ 0 + List.length x3 ≤ List.length x3 ∧ List.length x3 ≤ 1000000))
 (test (decide
 (0 +
 List.length
 (c9_0_1 hm by_ x2) ≤
 List.length
 (c9_0_1 hm by_ x2) ∧
 List.length
 (c9_0_1 hm by_ x2) ≤
 1000000 ∧
 0 +
 List.length
 (Prod.snd
 (Prod.snd
 (S.turnS ((1 : Int) + Int.tmod hm (40 : Int)) (List.length x3)
 (fun (j : Nat) => S.at' x3 j) (-by_)))) ≤
 List.length
 (Prod.snd
 (Prod.snd
 (S.turnS ((1 : Int) + Int.tmod hm (40 : Int)) (List.length x3) (fun (j : Nat) => S.at' x3 j)
 (-by_)))) ∧
 List.length
 (Prod.snd
 (Prod.snd
 (S.turnS ((1 : Int) + Int.tmod hm (40 : Int)) (List.length x3) (fun (j : Nat) => S.at' x3 j)
 (-by_)))) ≤
 1000000))
 (test (Prod.fst
 (S.traS ((1 : Int) + Int.tmod hm (40 : Int))
 (List.length (S.posP (fun (j : Nat) => S.bitB bs j) (Int.toNat ((1 : Int) + Int.tmod hm (40 : Int)))))
 fun (j : Nat) =>
 S.at' (S.posP (fun (j : Nat) => S.bitB bs j) (Int.toNat ((1 : Int) + Int.tmod hm (40 : Int))))
 j) ==
 (0 : Int))
 (test (x0 == (↑(List.length x2) : Int))
 (test (Prod.fst
 (Prod.snd
 (S.turnS ((1 : Int) + Int.tmod hm (40 : Int)) (List.length x2) (fun (j : Nat) => S.at' x2 j) by_)) ==
 (0 : Int))
 (test (Prod.fst
 (Prod.snd
 (S.turnS ((1 : Int) + Int.tmod hm (40 : Int)) (List.length x3) (fun (j : Nat) => S.at' x3 j)
 (-by_))) ==
 (0 : Int))
 (test (Prod.snd
 ((S.gapS ((1 : Int) + Int.tmod hm (40 : Int)) (List.length x2) fun (j : Nat) => S.at' x2 j).2) ==
 Prod.snd
 (Prod.snd
 (S.gapS
 (Prod.fst
 (S.turnS ((1 : Int) + Int.tmod hm (40 : Int)) (List.length x2) (fun (j : Nat) => S.at' x2 j) by_))
 (List.length
 (c9_0_1 hm by_ x2))
 fun (j : Nat) =>
 S.at'
 (c9_0_1 hm by_ x2)
 j)))
 (test (Prod.fst
 ((S.gapS ((1 : Int) + Int.tmod hm (40 : Int)) (List.length x2) fun (j : Nat) => S.at' x2 j).2) ==
 Prod.fst
 (Prod.snd
 (S.gapS
 (Prod.fst
 (S.turnS ((1 : Int) + Int.tmod hm (40 : Int)) (List.length x2) (fun (j : Nat) => S.at' x2 j) by_))
 (List.length
 (c9_0_1 hm by_ x2))
 fun (j : Nat) =>
 S.at'
 (c9_0_1 hm by_ x2)
 j)))
 (test (Prod.snd
 (S.colS ((1 : Int) + Int.tmod hm (40 : Int)) (List.length x2) (fun (j : Nat) => S.at' x2 j)
 ((1 : Int) + Int.tmod hm (40 : Int)) (List.length x3) (fun (j : Nat) => S.at' x3 j) (0 : Int)) ==
 (0 : Int))
 (test (Prod.snd
 (c9_0_0 hm by_ x2 x3) ==
 (0 : Int))
 (test (Prod.fst
 (S.colS ((1 : Int) + Int.tmod hm (40 : Int)) (List.length x2) (fun (j : Nat) => S.at' x2 j)
 ((1 : Int) + Int.tmod hm (40 : Int)) (List.length x3) (fun (j : Nat) => S.at' x3 j) (0 : Int)) ==
 Prod.fst
 (c9_0_0 hm by_ x2 x3))
 (Kret (PV.tf true) ([[]]) (15))
 (Kret (PV.tf false) ([[]]) (15)))
 (Kret (PV.tf false) ([[]]) (15)))
 (Kret (PV.tf false) ([[]]) (15)))
 (Kret (PV.tf false) ([[]]) (15)))
 (Kret (PV.tf false) ([[]]) (15)))
 (Kret (PV.tf false) ([[]]) (15)))
 (Kret (PV.tf false) ([[]]) (15)))
 (Kret (PV.tf false) ([[]]) (15)))
 (Kret (PV.tf false) ([[]]) (15)))
 (False))
 (False))
 (False))
 (False))
 (False))
 (False))
 (False))
 (False))
 (False))
set_option maxRecDepth 100000 in
theorem t9_0 (test : Bool → Prop → Prop → Prop) (Kst : KS) (Kret : KR) (hm : Int) (bs : Int) (ot : Int) (by_ : Int) (x0 : Int) (x1 : Int) (x2 : List Int) (x3 : List Int) (x4 : List (Int × Int)) : run test Try.env true (xTr test) true 400 ⟨9, hd Try.f9 0, zipT [2, 7, 8, 10, 11, 41, 42, 43] [PV.int IntKind.i16 by_, PV.ptr (PA.mk (0) (0) (0) (0)),
 PV.ptr (PA.mk (2) (0) (0) (0)),
 PV.int IntKind.i64
 (Prod.fst
 (S.traS ((1 : Int) + Int.tmod hm (40 : Int))
 (List.length
 (S.posP (fun (j : Nat) => S.bitB bs j) (Int.toNat ((1 : Int) + Int.tmod hm (40 : Int)))))
 fun (j : Nat) =>
 S.at' (S.posP (fun (j : Nat) => S.bitB bs j) (Int.toNat ((1 : Int) + Int.tmod hm (40 : Int))))
 j)),
 PV.int IntKind.i64 x0, PV.own (4) (2) (List.length x4),
 PV.int IntKind.i64
 (↑(List.length
 (Prod.snd
 (S.traS ((1 : Int) + Int.tmod hm (40 : Int))
 (List.length
 (S.posP (fun (j : Nat) => S.bitB bs j) (Int.toNat ((1 : Int) + Int.tmod hm (40 : Int)))))
 fun (j : Nat) =>
 S.at'
 (S.posP (fun (j : Nat) => S.bitB bs j) (Int.toNat ((1 : Int) + Int.tmod hm (40 : Int))))
 j))) :
 Int),
 PV.int IntKind.i64 x1], [[(0, (true, Blk.cells
 [PV.int IntKind.i64 ((1 : Int) + Int.tmod hm (40 : Int)),
 PV.own (1) (1) (List.length x2)])), (1, (true, Blk.cols (List.length x2) [Col.int IntKind.i64 fun (j : Nat) => S.at' x2 j])), (2, (true, Blk.cells
 [PV.int IntKind.i64 ((1 : Int) + Int.tmod hm (40 : Int)),
 PV.own (3) (1) (List.length x3)])), (3, (true, Blk.cols (List.length x3) [Col.int IntKind.i64 fun (j : Nat) => S.at' x3 j])), (4, (true, Blk.cols (List.length x4)
 [Col.int IntKind.i64 fun (j : Nat) => (S.at' x4 j).1,
 Col.int IntKind.i64 fun (j : Nat) => (S.at' x4 j).2]))], []], 5⟩ (proj 0 [2, 7, 8, 10, 11, 41, 42, 43] Kst Kret) =
  T9_0 test Kst Kret hm bs ot by_ x0 x1 x2 x3 x4 := by kernel_rfl
attribute [local irreducible] Int.subNatNat in
set_option maxRecDepth 100000 in
theorem be9 (hm : Int) (bs : Int) (ot : Int) (by_ : Int) (Kst : KS) (Kret : KR) (x : St9 ⊕ Rt9) (hS : HS 0 400 ((I9 hm bs ot by_)) Kst x) (hR : HR 0 400 ((V9 hm bs ot by_)) (fun r => [newL (0 + 1) ((N9 hm bs ot by_) r) ++ []]) Kret x) (h : (bif (decide ((0 : Int) ≤ hm ∧ hm ≤ (255 : Int)))
 then (bif (decide
 (0 +
 List.length
 (S.posP (fun (j : Nat) => S.bitB bs j) (Int.toNat ((1 : Int) + Int.tmod hm (40 : Int)))) ≤
 List.length (S.posP (fun (j : Nat) => S.bitB bs j) (Int.toNat ((1 : Int) + Int.tmod hm (40 : Int)))) ∧
 List.length (S.posP (fun (j : Nat) => S.bitB bs j) (Int.toNat ((1 : Int) + Int.tmod hm (40 : Int)))) ≤
 1000000))
 then (some (.inl (.h0 ((0 : Int)) ((0 : Int)) (S.posP (fun (j : Nat) => S.bitB bs j) (Int.toNat ((1 : Int) + Int.tmod hm (40 : Int)))) (S.posP (fun (j : Nat) => S.bitB ot j) (Int.toNat ((1 : Int) + Int.tmod hm (40 : Int)))) (Prod.snd
 (S.traS ((1 : Int) + Int.tmod hm (40 : Int))
 (List.length (S.posP (fun (j : Nat) => S.bitB bs j) (Int.toNat ((1 : Int) + Int.tmod hm (40 : Int)))))
 fun (j : Nat) =>
 S.at' (S.posP (fun (j : Nat) => S.bitB bs j) (Int.toNat ((1 : Int) + Int.tmod hm (40 : Int)))) j)))))
 else (none))
 else (none) : Option (St9 ⊕ Rt9)) = some x) : Te9 cond Kst Kret hm bs ot by_ := by
  unfold Te9
  exact cond_yes rfl (cond_yes rfl (bif_split h
   (fun c0 h => cond_yes c0 (bif_split h
   (fun c1 h => stop_at hS _ h (fun n => bif Nat.beq n 0 then 4 else bif Nat.beq n 1 then 3 else bif Nat.beq n 2 then 7 else bif Nat.beq n 3 then 6 else bif Nat.beq n 4 then 9 else n) rfl rfl rfl ⟨(rn_int rfl), ⟨(rn_ptr (use_own rfl) rfl rfl), ⟨(rn_ptr (use_own rfl) rfl rfl), ⟨(rn_int rfl), ⟨(rn_int rfl), ⟨(rn_own (use_own rfl) rfl rfl), ⟨(rn_int rfl), ⟨(rn_int rfl), trivial⟩⟩⟩⟩⟩⟩⟩⟩ rfl (entl_b (use_own rfl) rfl (by simp) (rb_cells ⟨(rn_int rfl), (rn_own (use_own rfl) rfl rfl), trivial⟩) (entl_new (use_own rfl) rfl (Nat.le_of_eq rfl) (rcs_int (fun _ _ => rfl) rcs_nil) (entl_b (use_own rfl) rfl (by simp) (rb_cells ⟨(rn_int rfl), (rn_own (use_own rfl) rfl rfl), trivial⟩) (entl_new (use_own rfl) rfl (Nat.le_of_eq rfl) (rcs_int (fun _ _ => rfl) rcs_nil) (entl_new (use_own rfl) rfl (Nat.le_of_eq rfl) (rcs_int (fun _ _ => rfl) (rcs_int (fun _ _ => rfl) rcs_nil)) entl_nil))))))
   (fun c1 h => no_some h)))
   (fun c0 h => no_some h)))
attribute [local irreducible] Int.subNatNat in
set_option maxRecDepth 100000 in
theorem b9_0 (hm : Int) (bs : Int) (ot : Int) (by_ : Int) (Kst : KS) (Kret : KR) (x : St9 ⊕ Rt9) (hS : HS 0 400 ((I9 hm bs ot by_)) Kst x) (hR : HR 0 400 ((V9 hm bs ot by_)) (fun r => [newL (0 + 1) ((N9 hm bs ot by_) r) ++ []]) Kret x) (x0 : Int) (x1 : Int) (x2 : List Int) (x3 : List Int) (x4 : List (Int × Int)) (h : (bif (decide
 (x1 <
 (↑(List.length
 (Prod.snd
 (S.traS ((1 : Int) + Int.tmod hm (40 : Int))
 (List.length
 (S.posP (fun (j : Nat) => S.bitB bs j) (Int.toNat ((1 : Int) + Int.tmod hm (40 : Int)))))
 fun (j : Nat) =>
 S.at'
 (S.posP (fun (j : Nat) => S.bitB bs j) (Int.toNat ((1 : Int) + Int.tmod hm (40 : Int))))
 j))) :
 Int)))
 then (bif (decide ((0 : Int) ≤ x1 ∧ x1 < (↑(List.length x4) : Int)))
 then (bif (decide (Int.toNat x1 < List.length x4))
 then (bif (lim IntKind.i64 (x0 + (S.at' x4 (Int.toNat x1)).2))
 then (bif (lim IntKind.i64 (x1 + (1 : Int)))
 then (some (.inl (.h0 (x0 + (S.at' x4 (Int.toNat x1)).2) (x1 + (1 : Int)) (x2) (x3) (x4))))
 else (none))
 else (none))
 else (none))
 else (none))
 else (bif (lim IntKind.i64 by_)
 then (bif (decide (0 + List.length x2 ≤ List.length x2 ∧ List.length x2 ≤ 1000000))
 then (bif (lim IntKind.i64 (-by_))
 then (bif (decide (0 + List.length x3 ≤ List.length x3 ∧ List.length x3 ≤ 1000000))
 then (bif (decide
 (0 +
 List.length
 (c9_0_1 hm by_ x2) ≤
 List.length
 (c9_0_1 hm by_ x2) ∧
 List.length
 (c9_0_1 hm by_ x2) ≤
 1000000))
 then (bif (decide
 (0 + List.length x2 ≤ List.length x2 ∧
 List.length x2 ≤ 1000000 ∧ 0 + List.length x3 ≤ List.length x3 ∧ List.length x3 ≤ 1000000))
 then (bif (decide
 (0 +
 List.length
 (c9_0_1 hm by_ x2) ≤
 List.length
 (c9_0_1 hm by_ x2) ∧
 List.length
 (c9_0_1 hm by_ x2) ≤
 1000000 ∧
 0 +
 List.length
 (Prod.snd
 (Prod.snd
 (S.turnS ((1 : Int) + Int.tmod hm (40 : Int)) (List.length x3)
 (fun (j : Nat) => S.at' x3 j) (-by_)))) ≤
 List.length
 (Prod.snd
 (Prod.snd
 (S.turnS ((1 : Int) + Int.tmod hm (40 : Int)) (List.length x3) (fun (j : Nat) => S.at' x3 j)
 (-by_)))) ∧
 List.length
 (Prod.snd
 (Prod.snd
 (S.turnS ((1 : Int) + Int.tmod hm (40 : Int)) (List.length x3) (fun (j : Nat) => S.at' x3 j)
 (-by_)))) ≤
 1000000))
 then (bif (Prod.fst
 (S.traS ((1 : Int) + Int.tmod hm (40 : Int))
 (List.length (S.posP (fun (j : Nat) => S.bitB bs j) (Int.toNat ((1 : Int) + Int.tmod hm (40 : Int)))))
 fun (j : Nat) =>
 S.at' (S.posP (fun (j : Nat) => S.bitB bs j) (Int.toNat ((1 : Int) + Int.tmod hm (40 : Int))))
 j) ==
 (0 : Int))
 then (bif (x0 == (↑(List.length x2) : Int))
 then (bif (Prod.fst
 (Prod.snd
 (S.turnS ((1 : Int) + Int.tmod hm (40 : Int)) (List.length x2) (fun (j : Nat) => S.at' x2 j) by_)) ==
 (0 : Int))
 then (bif (Prod.fst
 (Prod.snd
 (S.turnS ((1 : Int) + Int.tmod hm (40 : Int)) (List.length x3) (fun (j : Nat) => S.at' x3 j)
 (-by_))) ==
 (0 : Int))
 then (bif (Prod.snd
 ((S.gapS ((1 : Int) + Int.tmod hm (40 : Int)) (List.length x2) fun (j : Nat) => S.at' x2 j).2) ==
 Prod.snd
 (Prod.snd
 (S.gapS
 (Prod.fst
 (S.turnS ((1 : Int) + Int.tmod hm (40 : Int)) (List.length x2) (fun (j : Nat) => S.at' x2 j) by_))
 (List.length
 (c9_0_1 hm by_ x2))
 fun (j : Nat) =>
 S.at'
 (c9_0_1 hm by_ x2)
 j)))
 then (bif (Prod.fst
 ((S.gapS ((1 : Int) + Int.tmod hm (40 : Int)) (List.length x2) fun (j : Nat) => S.at' x2 j).2) ==
 Prod.fst
 (Prod.snd
 (S.gapS
 (Prod.fst
 (S.turnS ((1 : Int) + Int.tmod hm (40 : Int)) (List.length x2) (fun (j : Nat) => S.at' x2 j) by_))
 (List.length
 (c9_0_1 hm by_ x2))
 fun (j : Nat) =>
 S.at'
 (c9_0_1 hm by_ x2)
 j)))
 then (bif (Prod.snd
 (S.colS ((1 : Int) + Int.tmod hm (40 : Int)) (List.length x2) (fun (j : Nat) => S.at' x2 j)
 ((1 : Int) + Int.tmod hm (40 : Int)) (List.length x3) (fun (j : Nat) => S.at' x3 j) (0 : Int)) ==
 (0 : Int))
 then (bif (Prod.snd
 (c9_0_0 hm by_ x2 x3) ==
 (0 : Int))
 then (bif (Prod.fst
 (S.colS ((1 : Int) + Int.tmod hm (40 : Int)) (List.length x2) (fun (j : Nat) => S.at' x2 j)
 ((1 : Int) + Int.tmod hm (40 : Int)) (List.length x3) (fun (j : Nat) => S.at' x3 j) (0 : Int)) ==
 Prod.fst
 (c9_0_0 hm by_ x2 x3))
 then (some (.inr (true)))
 else (some (.inr (false))))
 else (some (.inr (false))))
 else (some (.inr (false))))
 else (some (.inr (false))))
 else (some (.inr (false))))
 else (some (.inr (false))))
 else (some (.inr (false))))
 else (some (.inr (false))))
 else (some (.inr (false))))
 else (none))
 else (none))
 else (none))
 else (none))
 else (none))
 else (none))
 else (none)) : Option (St9 ⊕ Rt9)) = some x) : T9_0 cond Kst Kret hm bs ot by_ x0 x1 x2 x3 x4 := by
  unfold T9_0
  exact bif_split h
   (fun c0 h => bif_split h
   (fun c1 h => bif_split h
   (fun c2 h => cond_yes c2 (bif_split h
   (fun c3 h => bif_split h
   (fun c4 h => stop_at hS _ h (fun n => bif Nat.beq n 0 then 0 else bif Nat.beq n 1 then 1 else bif Nat.beq n 2 then 2 else bif Nat.beq n 3 then 3 else bif Nat.beq n 4 then 4 else n) rfl rfl rfl ⟨(rn_int rfl), ⟨(rn_ptr (use_own rfl) rfl rfl), ⟨(rn_ptr (use_own rfl) rfl rfl), ⟨(rn_int rfl), ⟨(rn_int rfl), ⟨(rn_own (use_own rfl) rfl rfl), ⟨(rn_int rfl), ⟨(rn_int rfl), trivial⟩⟩⟩⟩⟩⟩⟩⟩ rfl (entl_b (use_own rfl) rfl (by simp) (rb_cells ⟨(rn_int rfl), (rn_own (use_own rfl) rfl rfl), trivial⟩) (entl_new (use_own rfl) rfl (Nat.le_of_eq rfl) (rcs_int (fun _ _ => rfl) rcs_nil) (entl_b (use_own rfl) rfl (by simp) (rb_cells ⟨(rn_int rfl), (rn_own (use_own rfl) rfl rfl), trivial⟩) (entl_new (use_own rfl) rfl (Nat.le_of_eq rfl) (rcs_int (fun _ _ => rfl) rcs_nil) (entl_new (use_own rfl) rfl (Nat.le_of_eq rfl) (rcs_int (fun _ _ => rfl) (rcs_int (fun _ _ => rfl) rcs_nil)) entl_nil))))))
   (fun c4 h => no_some h))
   (fun c3 h => no_some h)))
   (fun c2 h => no_some h))
   (fun c1 h => no_some h))
   (fun c0 h => bif_split h
   (fun c1 h => bif_split h
   (fun c2 h => cond_yes c1 (bif_split h
   (fun c3 h => bif_split h
   (fun c4 h => cond_yes c2 (bif_split h
   (fun c5 h => bif_split h
   (fun c6 h => bif_split h
   (fun c7 h => bif_split h
   (fun c8 h => bif_split h
   (fun c9 h => bif_split h
   (fun c10 h => bif_split h
   (fun c11 h => bif_split h
   (fun c12 h => bif_split h
   (fun c13 h => bif_split h
   (fun c14 h => bif_split h
   (fun c15 h => bif_split h
   (fun c16 h => ret_at hR _ h (fun n => n) rfl rfl rfl (rn_bool_tf rfl) rfl entl_nil)
   (fun c16 h => ret_at hR _ h (fun n => n) rfl rfl rfl (rn_bool_tf rfl) rfl entl_nil))
   (fun c15 h => ret_at hR _ h (fun n => n) rfl rfl rfl (rn_bool_tf rfl) rfl entl_nil))
   (fun c14 h => ret_at hR _ h (fun n => n) rfl rfl rfl (rn_bool_tf rfl) rfl entl_nil))
   (fun c13 h => ret_at hR _ h (fun n => n) rfl rfl rfl (rn_bool_tf rfl) rfl entl_nil))
   (fun c12 h => ret_at hR _ h (fun n => n) rfl rfl rfl (rn_bool_tf rfl) rfl entl_nil))
   (fun c11 h => ret_at hR _ h (fun n => n) rfl rfl rfl (rn_bool_tf rfl) rfl entl_nil))
   (fun c10 h => ret_at hR _ h (fun n => n) rfl rfl rfl (rn_bool_tf rfl) rfl entl_nil))
   (fun c9 h => ret_at hR _ h (fun n => n) rfl rfl rfl (rn_bool_tf rfl) rfl entl_nil))
   (fun c8 h => ret_at hR _ h (fun n => n) rfl rfl rfl (rn_bool_tf rfl) rfl entl_nil))
   (fun c7 h => no_some h))
   (fun c6 h => no_some h))
   (fun c5 h => no_some h)))
   (fun c4 h => no_some h))
   (fun c3 h => no_some h)))
   (fun c2 h => no_some h))
   (fun c1 h => no_some h))
theorem a9 (hm : Int) (bs : Int) (ot : Int) (by_ : Int) {r : Rt9} (h : Goes ((q9 hm bs ot by_)) ((p9 hm bs ot by_)) r) : CallR Try.prog 9 [.agg [.int .u8 hm, .int .u64 bs], .int .u64 ot, .int .i16 by_] [[]] 0 ((V9 hm bs ot by_) r) ((fun r => [newL (0 + 1) ((N9 hm bs ot by_) r) ++ []]) r) 400 ∧ ∃ F, Try.prog.funcs[9]? = some F ∧ F.body.isSome = true ∧ (F.name == "runtime.NumGoroutine") = false := by
  refine dec_calls (f := 9) (lo := 0) (hi := 400) (H := [[]]) (args := [.agg [.int .u8 hm, .int .u64 bs], .int .u64 ot, .int .i16 by_]) Try.envOk Try.mixed xTr_ok ((I9 hm bs ot by_)) ((V9 hm bs ot by_)) (fun r => [newL (0 + 1) ((N9 hm bs ot by_) r) ++ []]) (fn := mkFn Try.f9) (ts := [2, 7, 8, 10, 11, 41, 42, 43]) (n := 400) rfl (by decide) (by simp) (names_of rfl) ?_ ?_ ?_ h
  · intro s; cases s <;> exact ⟨hd_ok _ _, by simp [I9], names_of rfl, Nat.le_of_ble_eq_true rfl⟩
  · intro Kst Kret x hS hR h
    exact Holds.eq (te9 cond Kst Kret hm bs ot by_) (be9 hm bs ot by_ Kst Kret x hS hR h)
  · intro Kst Kret x hS hR s h
    cases s with
    | h0 x0 x1 x2 x3 x4 => exact Holds.eq (t9_0 cond Kst Kret hm bs ot by_ x0 x1 x2 x3 x4) (b9_0 hm bs ot by_ Kst Kret x hS hR x0 x1 x2 x3 x4 h)
noncomputable def k9 : Con := ⟨9, [.agg [.plain (.int .u8), .plain (.int .u64)], .one (.plain (.int .u64)), .one (.plain (.int .i16))], fun (x : (Int × Int × Unit) × Int × Int × Unit) => (fun (hm : Int) (bs : Int) (ot : Int) (by_ : Int) => decide ((0 ≤ hm ∧ hm ≤ 255) ∧ -32768 ≤ by_ ∧ by_ ≤ 32767)) x.1.1 x.1.2.1 x.2.1 x.2.2.1, fun (x : (Int × Int × Unit) × Int × Int × Unit) => (fun (hm : Int) (bs : Int) (ot : Int) (by_ : Int) => (V9 hm bs ot by_) (true)) x.1.1 x.1.2.1 x.2.1 x.2.2.1, fun (x : (Int × Int × Unit) × Int × Int × Unit) => (fun (hm : Int) (bs : Int) (ot : Int) (by_ : Int) => (N9 hm bs ot by_) (true)) x.1.1 x.1.2.1 x.2.1 x.2.2.1, fun _ _ => .dead⟩
theorem s9' (hm : Int) (bs : Int) (ot : Int) (by_ : Int) (H : Nat) (hH : 1 + Int.tmod hm 40 = (H : Int)) (hb : 1 ≤ H ∧ H ≤ 40) (hv : -32768 ≤ by_ ∧ by_ ≤ 32767) : ∀ (d i : Nat) (x0 : Int), i + d = (S.runsS (fun j => S.bitB bs j) H true).length → Holds (x0 = S.sum2 ((S.runsS (fun j => S.bitB bs j) H true).take i)) → 0 ≤ x0 → x0 ≤ 2000 * i → Comes (q9 hm bs ot by_) (.h0 x0 (i : Int) (S.posP (fun j => S.bitB bs j) H) (S.posP (fun j => S.bitB ot j) H) (S.runsS (fun j => S.bitB bs j) H true)) true := by
  have h1 : 1 ≤ (H : Int) ∧ (H : Int) ≤ 2000 := by omega
  have eT := traP (a := fun j => S.bitB bs j) h1
  have hl : (S.runsS (fun j => S.bitB bs j) H true).length ≤ H + 1 := runsS_len
  have hA : (S.posP (fun j => S.bitB bs j) H).length ≤ H := posP_len
  have hC : (S.posP (fun j => S.bitB ot j) H).length ≤ H := posP_len
  intro d
  induction d with
  | zero =>
    intro i x0 hi ex h2 h3
    have eU := turnP (a := fun j => S.bitB bs j) h1 (v := by_) (by omega)
    have eV := turnP (a := fun j => S.bitB ot j) h1 (v := -by_) (by omega)
    have r1 : ((-by_) % (H : Int)).toNat < H := rot_lt hb.1
    have r2 : ((- -by_) % (H : Int)).toNat < H := rot_lt hb.1
    have eG := gap_rot (B := fun j => S.bitB bs j) h1 r1
    have eC := colP (a := fun j => S.bitB bs j) (c := fun j => S.bitB ot j) h1
    have eD := colP (a := S.rotB (fun j => S.bitB bs j) H ((-by_) % (H : Int)).toNat) (c := S.rotB (fun j => S.bitB ot j) H ((- -by_) % (H : Int)).toNat) h1
    have eR := col_rot (a := fun j => S.bitB bs j) (c := fun j => S.bitB ot j) hb.1 (v := by_)
    have eL := len_rot (B := fun j => S.bitB bs j) r1
    have eM := len_rot (B := fun j => S.bitB ot j) r2
    have es : (x0 == ((S.posP (fun j => S.bitB bs j) H).length : Int)) = true := by
      have e := ex.get
      rw [List.take_of_length_le (by omega), len_sum] at e
      rw [e]; exact beq_self_eq_true _
    rw [eR] at eD
    clear eR ex
    apply Comes.of
    rw [q9]
    simp only [c9_0_0, c9_0_1, hH, Int.toNat_natCast, eT, eU, eV, eG, eC, eD]
    generalize S.rotB (fun j => S.bitB bs j) H ((-by_) % (H : Int)).toNat = A' at *
    generalize S.rotB (fun j => S.bitB ot j) H ((- -by_) % (H : Int)).toNat = C' at *
    refine goes_no (decide_eq_false (by omega)) ?_
    repeat' first
      | with_reducible exact goes_inr.mpr rfl
      | ((with_reducible refine goes_ok ?_ ?_); focus (first | with_reducible exact beq_self_eq_true _ | with_reducible assumption | (rw [lim64]; apply decide_eq_true; omega) | (apply decide_eq_true; omega)))
  | succ d ih =>
    intro i x0 hi ex h2 h3
    have hm := runsS_mem (at_mem (L := (S.runsS (fun j => S.bitB bs j) H true)) (j := i) (by omega))
    have ih := ih (i + 1) (x0 + (S.at' (S.runsS (fun j => S.bitB bs j) H true) i).2) (by omega) ⟨by rw [sum2_take (by omega), ex.get]⟩ (by omega) (by omega)
    clear ex
    apply Comes.of
    rw [q9]
    simp only [hH, Int.toNat_natCast, eT]
    generalize S.at' (S.runsS (fun j => S.bitB bs j) H true) i = y at *
    repeat' first
      | with_reducible exact goes_inr.mpr rfl
      | ((with_reducible refine goes_ok ?_ ?_); focus (first | with_reducible exact beq_self_eq_true _ | with_reducible assumption | (rw [lim64]; apply decide_eq_true; omega) | (apply decide_eq_true; omega)))
    exact ih
theorem s9 (hm : Int) (bs : Int) (ot : Int) (by_ : Int) (hp : (0 ≤ hm ∧ hm ≤ 255) ∧ -32768 ≤ by_ ∧ by_ ≤ 32767) : Goes ((q9 hm bs ot by_)) ((p9 hm bs ot by_)) (true) := by
  obtain ⟨hp1, hp2⟩ := hp
  have hx : 0 ≤ Int.tmod hm 40 ∧ Int.tmod hm 40 < 40 := ⟨Int.tmod_nonneg _ hp1.1, Int.tmod_lt_of_pos _ (by decide)⟩
  obtain ⟨H, hH⟩ := Int.eq_ofNat_of_zero_le (show 0 ≤ 1 + Int.tmod hm 40 by omega)
  have h1 : 1 ≤ (H : Int) ∧ (H : Int) ≤ 2000 := by omega
  have eT := traP (a := fun j => S.bitB bs j) h1
  have hA : (S.posP (fun j => S.bitB bs j) H).length ≤ H := posP_len
  have hC : (S.posP (fun j => S.bitB ot j) H).length ≤ H := posP_len
  have hm' := s9' hm bs ot by_ H hH (by omega) hp2 _ 0 0 (Nat.zero_add _) ⟨rfl⟩ (Int.le_refl _) (by omega)
  unfold p9
  simp only [hH, Int.toNat_natCast, eT]
  repeat' first
    | ((with_reducible refine goes_ok ?_ ?_); focus (first | with_reducible exact beq_self_eq_true _ | with_reducible assumption | (rw [lim64]; apply decide_eq_true; omega) | (apply decide_eq_true; omega)))
  exact hm'

theorem k9_ok : k9.ok Try.prog := by
  intro x hx
  obtain ⟨⟨hm, bs, _⟩, ot, by_, _⟩ := x
  obtain ⟨h1, h2⟩ := a9 hm bs ot by_ (s9 hm bs ot by_ (of_dec hx rfl))
  exact ⟨⟨400, (by decide : 0 + 1 + 0 ≤ 400), h1⟩, h2⟩
theorem pre9 {x : SsI k9.ss} (hx : ssFits k9.ss x) : k9.pre (ssj k9.ss x) = true := by
  obtain ⟨⟨hm, bs, u⟩, ot, by_, u'⟩ := x
  obtain ⟨⟨f1, f2, f3⟩, f5, f4, f6⟩ := hx
  have g1 : inR .u8 hm := f1
  have g4 : inR .i16 by_ := f4
  exact decide_eq_true ⟨g1, g4⟩

end Go.Ev
