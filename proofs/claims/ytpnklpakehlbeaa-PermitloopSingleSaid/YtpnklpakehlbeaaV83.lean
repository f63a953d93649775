/-
  The parts that the statement needs, 3 of 3.
-/
import Derived.Test.YtpnklpakehlbeaaV82
namespace Go.Ev
open Go.Proofs
open Go.IntWalk
set_option linter.unusedVariables false
set_option linter.unusedSimpArgs false
set_option maxRecDepth 100000
theorem s38 (al nl ml : Nat) (tl : Nat → Int) (vl : Nat → Int) (de : Int) (hp : (al + nl ≤ ml ∧ nl ≤ 1000000) ∧ (0 ≤ de ∧ de ≤ 255) ∧ S.byB (fun j => tl (j + al)) nl = true ∧ S.byB (fun j => vl (j + al)) nl = true) : Goes ((q38 al nl ml tl vl de)) ((p38 al nl ml tl vl de)) (S.madeL nl (fun j => tl (j + al)) (fun j => vl (j + al))) := by
  unfold S.madeL
  by_cases h0 : nl = 0
  · have e : (q38 al nl ml tl vl de) (.h0 0 [(1, 1)] []) = some (.inl (.h0 1 [(1, 1)] [(S.nameI 0, 1, 1)])) := rfl
    have e2 : (q38 al nl ml tl vl de) (.h0 1 [(1, 1)] [(S.nameI 0, 1, 1)]) = some (.inr [(S.nameI 0, 1, 1)]) := rfl
    rw [if_pos h0]
    obtain ⟨⟨hp1, hp2⟩, hp3, hp4, hp5⟩ := hp
    show Goes _ _ _
    unfold p38
    repeat' first
      | with_reducible refine goes_if (fun h => ?_) (fun h => ?_) <;> (try simp only [lim64, imp_false, decide_eq_true_eq, decide_eq_false_iff_not, Int.toNat_natCast, toNat_pred, toNat_succ, Option.getD_some, Option.getD_none, Bool.not_eq_true', Bool.not_eq_false', Bool.and_eq_true, Bool.or_eq_true, Bool.and_eq_false_iff, Bool.or_eq_false_iff, bne_iff_ne, beq_iff_eq, bne_eq_false_iff_eq, beq_eq_false_iff_ne, ne_eq, not_and, Int.not_le, Int.not_lt, ge_iff_le, gt_iff_lt, Nat.not_lt, Nat.not_le, Bool.not_eq_true, Bool.not_eq_false, Bool.true_eq_false, Bool.false_eq_true, not_false_eq_true, not_true_eq_false] at h)
      | exact goes_none.mpr (by omega)
    all_goals first | (exfalso; omega) | exact Comes.next e (Comes.done e2)
  · rw [if_neg h0]
    have hm := s38' al nl ml tl vl de hp (min nl 8) 0 [] (Nat.zero_add _) ⟨rfl⟩
    obtain ⟨⟨hp1, hp2⟩, hp3, hp4, hp5⟩ := hp
    show Goes _ _ _
    unfold p38
    repeat' first
      | with_reducible refine goes_if (fun h => ?_) (fun h => ?_) <;> (try simp only [lim64, imp_false, decide_eq_true_eq, decide_eq_false_iff_not, Int.toNat_natCast, toNat_pred, toNat_succ, Option.getD_some, Option.getD_none, Bool.not_eq_true', Bool.not_eq_false', Bool.and_eq_true, Bool.or_eq_true, Bool.and_eq_false_iff, Bool.or_eq_false_iff, bne_iff_ne, beq_iff_eq, bne_eq_false_iff_eq, beq_eq_false_iff_ne, ne_eq, not_and, Int.not_le, Int.not_lt, ge_iff_le, gt_iff_lt, Nat.not_lt, Nat.not_le, Bool.not_eq_true, Bool.not_eq_false, Bool.true_eq_false, Bool.false_eq_true, not_false_eq_true, not_true_eq_false] at h)
      | exact goes_none.mpr (by omega)
    all_goals first | (exfalso; omega) | exact hm
theorem k38_ok : k38.ok Try.prog := by
  intro x hx
  obtain ⟨⟨al, nl, ml, tl, vl, _⟩, de, _⟩ := x
  obtain ⟨h1, h2⟩ := a38 al nl ml tl vl de (s38 al nl ml tl vl de (of_dec hx rfl))
  exact ⟨⟨400, (by decide : 1 + 1 + 1 ≤ 400), h1⟩, h2⟩
noncomputable def xM (test : Bool → Prop → Prop → Prop) : Ext := consX test [k38, k25, k17]
theorem xM_ok : ExtOk Try.prog (xM cond) := consX_ok ⟨k38_ok, k25_ok, k17_ok, trivial⟩
abbrev St12 := Empty
abbrev Rt12 := Bool
noncomputable def V12  (r : Rt12) : PV := PV.bool r
noncomputable def N12  (r : Rt12) : List Blk := []
noncomputable def I12  : St12 → Hd := fun s => s.elim
noncomputable def q12  : St12 → Option (St12 ⊕ Rt12) := fun s => s.elim
noncomputable def p12  : Option (St12 ⊕ Rt12) := some (.inr (true))
noncomputable def Te12 (test : Bool → Prop → Prop → Prop) (Kst : KS) (Kret : KR)  : Prop :=
  test (true)
 (test (true)
 (test (true)
 (test (true)
 (test (true)
 (test (true)
 (test (true)
 (test (true)
 (test (true)
 (test (true)
 (test (true)
 (test (true)
 (Kret (PV.tf true) ([[]]) (8))
 (Kret (PV.tf false) ([[]]) (8)))
 (Kret (PV.tf false) ([[]]) (8)))
 (Kret (PV.tf false) ([[]]) (8)))
 (Kret (PV.tf false) ([[]]) (8)))
 (Kret (PV.tf false) ([[]]) (8)))
 (Kret (PV.tf false) ([[]]) (8)))
 (Kret (PV.tf false) ([[]]) (8)))
 (Kret (PV.tf false) ([[]]) (8)))
 (False))
 (False))
 (False))
 (False)
set_option maxRecDepth 100000 in
theorem te12 (test : Bool → Prop → Prop → Prop) (Kst : KS) (Kret : KR)  : run test Try.env true (xM test) true 400 ⟨12, [.cd (mkFn Try.f12).body], argT 0 [], [[], []], 0⟩ (proj 0 [] Kst Kret) =
  Te12 test Kst Kret  := by kernel_rfl
set_option maxRecDepth 100000 in
theorem be12  (Kst : KS) (Kret : KR) (x : St12 ⊕ Rt12) (hS : HS 0 400 (I12) Kst x) (hR : HR 0 400 (V12) (fun r => [newL (0 + 1) (N12 r) ++ []]) Kret x) (h : (some (.inr (true)) : Option (St12 ⊕ Rt12)) = some x) : Te12 cond Kst Kret  := by
  unfold Te12
  exact cond_yes rfl (cond_yes rfl (cond_yes rfl (cond_yes rfl (cond_yes rfl (cond_yes rfl (cond_yes rfl (cond_yes rfl (cond_yes rfl (cond_yes rfl (cond_yes rfl (cond_yes rfl (ret_at hR _ h (fun n => n) rfl rfl rfl (rn_bool_tf rfl) rfl entl_nil))))))))))))
theorem a12  {r : Rt12} (h : Goes (q12) (p12) r) : CallR Try.prog 12 [] [[]] 0 (V12 r) ((fun r => [newL (0 + 1) (N12 r) ++ []]) r) 400 ∧ ∃ F, Try.prog.funcs[12]? = some F ∧ F.body.isSome = true ∧ (F.name == "runtime.NumGoroutine") = false := by
  refine dec_calls (f := 12) (lo := 0) (hi := 400) (H := [[]]) (args := []) Try.envOk Try.mixed xM_ok (I12) (V12) (fun r => [newL (0 + 1) (N12 r) ++ []]) (fn := mkFn Try.f12) (ts := []) (n := 400) rfl (by decide) (by simp) (names_of rfl) ?_ ?_ ?_ h
  · intro s; exact s.elim
  · intro Kst Kret x hS hR h
    exact Holds.eq (te12 cond Kst Kret ) (be12  Kst Kret x hS hR h)
  · intro Kst Kret x hS hR s h; exact s.elim
noncomputable def k12 : Con := ⟨12, [], fun (x : Unit) => decide (True), fun (x : Unit) => V12 (true), fun (x : Unit) => N12 (true), fun _ _ => .dead⟩
theorem s12  (hp : True) : Goes (q12) (p12) (true) := by
  exact goes_inr.mpr rfl
theorem k12_ok : k12.ok Try.prog := by
  intro x hx
  obtain _ := x
  obtain ⟨h1, h2⟩ := a12  (s12  (of_dec hx rfl))
  exact ⟨⟨400, (by decide : 0 + 1 + 0 ≤ 400), h1⟩, h2⟩
noncomputable def xL5 (test : Bool → Prop → Prop → Prop) : Ext := consX test [k12, k38, k17, k14, k30, k25]
theorem xL5_ok : ExtOk Try.prog (xL5 cond) := consX_ok ⟨k12_ok, k38_ok, k17_ok, k14_ok, k30_ok, k25_ok, trivial⟩
section
variable {n : Nat} {t : Nat → ByteArray} {v g : Nat → Int} {de e st k l p : Int}
end
namespace S
/-- The error of a network whose stations are a list. -/
def netL (L : List (ByteArray × Int × Int)) (de : Int) : Int := netE L.length (fun j => (at' L j).1) (fun j => (at' L j).2.1) (fun j => (at' L j).2.2) de
def worL (L : List (ByteArray × Int × Int)) (de : Int) : A5 := worS (latI L.length (fun j => (at' L j).2.1) (fun j => (at' L j).2.2) de) (allF L.length) L.length
end S
theorem byB_mk {n : Nat} {t : Nat → Int} (h : ∀ j, j < n → 0 ≤ t j ∧ t j ≤ 255) : S.byB t n = true := all_iff.mpr fun j hj => decide_eq_true (h j hj)
theorem staE_yes {e : Int} {t : Nat → ByteArray} {v g : Nat → Int} : ∀ {k i : Nat}, (∀ j, i ≤ j → j < i + k → S.isNam (t j) = true ∧ (∀ r, r < j → S.eqS (t r) (t j) = false) ∧ (0 ≤ v j ∧ v j ≤ 1000000) ∧ 0 ≤ g j ∧ g j ≤ 1000000) → S.staE e t v g i k = e
  | 0, i, _ => rfl
  | k + 1, i, h => by
    obtain ⟨h1, h2, h3⟩ := h i (Nat.le_refl _) (by omega)
    rw [staE_e, if_pos h1, if_neg (by rw [any_no.mpr h2]; exact Bool.false_ne_true), if_pos h3]
    exact staE_yes fun j q1 q2 => h j (by omega) (by omega)
theorem nameI_ok : ∀ i, i < 8 → S.isNam (S.nameI i) = true ∧ ∀ r, r < i → S.eqS (S.nameI r) (S.nameI i) = false := by
  decide +kernel
/-- A network whose stations have the names a, b, .. is valid. -/
theorem net_yes {L : List (ByteArray × Int × Int)} {de : Int} (h1 : 1 ≤ L.length ∧ L.length ≤ 8) (hd : 0 ≤ de ∧ de ≤ 1000000) (h : ∀ j, j < L.length → (S.at' L j).1 = S.nameI j ∧ (0 ≤ (S.at' L j).2.1 ∧ (S.at' L j).2.1 ≤ 1000000) ∧ 0 ≤ (S.at' L j).2.2 ∧ (S.at' L j).2.2 ≤ 1000000) : S.netL L de = 0 := by
  unfold S.netL S.netE
  rw [if_neg (by omega), if_neg (by omega), staE_yes fun j _ hj => ?_, if_pos hd]
  obtain ⟨q1, q2, q3⟩ := h j (by omega)
  refine ⟨?_, fun r hr => ?_, q2, q3⟩
  · show S.isNam (S.at' L j).1 = true
    rw [q1]; exact (nameI_ok j (by omega)).1
  · show S.eqS (S.at' L r).1 (S.at' L j).1 = false
    rw [q1, (h r (by omega)).1]
    exact (nameI_ok j (by omega)).2 r hr
theorem made_ok {n : Nat} {t v : Nat → Int} (hn : n ≤ 8) (ht : S.byB t n = true) (hv : S.byB v n = true) : (1 ≤ (S.madeL n t v).length ∧ (S.madeL n t v).length ≤ 8) ∧ ∀ j, j < (S.madeL n t v).length → (S.at' (S.madeL n t v) j).1 = S.nameI j ∧ (0 ≤ (S.at' (S.madeL n t v) j).2.1 ∧ (S.at' (S.madeL n t v) j).2.1 ≤ 255) ∧ 0 ≤ (S.at' (S.madeL n t v) j).2.2 ∧ (S.at' (S.madeL n t v) j).2.2 ≤ 255 := by
  unfold S.madeL
  split
  · refine ⟨⟨Nat.le_refl _, by decide⟩, fun j hj => ?_⟩
    obtain rfl : j = 0 := by have : j < 1 := hj; omega
    exact ⟨rfl, by decide, by decide⟩
  · refine ⟨by rw [mkl_len]; omega, fun j hj => ?_⟩
    rw [mkl_len] at hj
    rw [at_mkl hj]
    exact ⟨rfl, of_decide_eq_true (all_iff.mp ht j (by omega)), of_decide_eq_true (all_iff.mp hv j (by omega))⟩
theorem opn_no {lp : Int} {n s : Nat} {loc : Nat → Bool} {k l p : Int} (h0 : s < n) (h1 : loc s = false) (h : S.opnB lp n loc 1 (fun _ => k) (fun _ => l) (fun _ => p) = false) : l = lp := by
  unfold S.opnB at h
  rw [Bool.and_eq_false_iff] at h
  rcases h with h | h
  · rw [Bool.not_eq_false', has_one, decide_eq_true_eq] at h
    exact h.2.1
  · have h := any_no.mp h s h0
    unfold S.opP at h
    rw [Bool.or_eq_false_iff, Bool.or_eq_false_iff] at h
    have h2 := h.2
    rw [has_one, h1, Bool.not_false, Bool.true_and, Bool.not_eq_false', decide_eq_true_eq] at h2
    exact h2.2.1
/-- Under one failure, a lost permit opens a loop. -/
theorem saf_one {n s : Nat} {loc : Nat → Bool} {k l p : Int} (h0 : s < n) (h1 : loc s = false) : S.safB n loc 1 (fun j => S.lit [k] 0 j) (fun j => S.lit [l] 0 j) (fun j => S.lit [p] 0 j) = true := by
  unfold S.safB
  rw [op1_eq, op1_eq]
  cases hA : S.op1 1 n loc k l p
  · cases hB : S.op1 2 n loc k l p
    · have a := opn_no h0 h1 hA
      have c := opn_no h0 h1 hB
      omega
    · rfl
  · rfl
theorem all_memF {n : Nat} {f : Int × Int × Int} (h : f ∈ S.allF n) : S.okF n f.1 f.2.1 f.2.2 := by
  rcases List.mem_cons.mp h with rfl | h
  · exact .inl ⟨rfl, rfl, rfl⟩
  · obtain ⟨k, l, p⟩ := f
    exact (fail_mem.mp h).1
theorem at_mem {α : Type} [Inhabited α] {L : List α} {j : Nat} (h : j < L.length) : S.at' L j ∈ L := by rw [at_lt h]; exact List.getElem_mem _
theorem lat_nn {n : Nat} {v g : Nat → Int} {de st k l p : Int} {t : Nat → ByteArray} (hv : S.netE n t v g de = 0) : 0 ≤ S.latI n v g de st k l p := by
  obtain ⟨v1, v2, v3⟩ := net_ok hv
  have hA := tA_b (st := st) v2 v3 n (Nat.le_refl _)
  have hB := tB_b (st := st) v2 v3 n (Nat.le_refl _)
  unfold S.latI
  (repeat' split) <;> omega
theorem fold_P {α : Type} {g : α → Nat → α} (P : Nat → α → Prop) : ∀ {c i : Nat} {a : α}, P i a → (∀ j a, i ≤ j → j < i + c → P j a → P (j + 1) (g a j)) → P (i + c) (S.fold g i c a)
  | 0, _, _, h, _ => h
  | c + 1, i, a, h, hs => by
    simp only [S.fold]
    rw [show i + (c + 1) = i + 1 + c by omega]
    exact fold_P P (hs i a (Nat.le_refl _) (by omega) h) fun j a q1 q2 q3 => hs j a (by omega) (by omega) q3
/-- No latency is greater than the greatest one. -/
theorem wor_ge {lat : Int → Int → Int → Int → Int} {L : List (Int × Int × Int)} {n st j : Nat} (h1 : st < n) (h2 : j < L.length) : lat st (S.at' L j).1 (S.at' L j).2.1 (S.at' L j).2.2 ≤ (S.worS lat L n).1 := by
  have inn : ∀ (st : Nat) (a : S.A5), a.1 ≤ (S.fold (S.worT lat L st) 0 L.length a).1 ∧ ∀ j, j < L.length → lat st (S.at' L j).1 (S.at' L j).2.1 (S.at' L j).2.2 ≤ (S.fold (S.worT lat L st) 0 L.length a).1 := fun st a => by
    have h := fold_P (g := S.worT lat L st) (fun i a' => a.1 ≤ a'.1 ∧ ∀ j, j < i → lat st (S.at' L j).1 (S.at' L j).2.1 (S.at' L j).2.2 ≤ a'.1) (c := L.length) (i := 0) (a := a) ⟨Int.le_refl _, fun j hj => absurd hj (Nat.not_lt_zero j)⟩ (fun j a' _ _ ⟨q1, q2⟩ => by
      unfold S.worT
      split
      · refine ⟨by dsimp only; omega, fun r hr => ?_⟩
        dsimp only
        rcases Nat.lt_or_eq_of_le (Nat.le_of_lt_succ hr) with h | h
        · have := q2 r h; omega
        · subst h; exact Int.le_refl _
      · refine ⟨q1, fun r hr => ?_⟩
        rcases Nat.lt_or_eq_of_le (Nat.le_of_lt_succ hr) with h | h
        · exact q2 r h
        · subst h; omega)
    rw [Nat.zero_add] at h
    exact h
  have h := fold_P (g := fun a st => S.fold (S.worT lat L st) 0 L.length a) (fun i a => ∀ st, st < i → ∀ j, j < L.length → lat st (S.at' L j).1 (S.at' L j).2.1 (S.at' L j).2.2 ≤ a.1) (c := n) (i := 0) (a := (-1, 0, 0, 0, 0)) (fun st hst => absurd hst (Nat.not_lt_zero st)) (fun i a _ _ q st hst j hj => by
    rcases Nat.lt_or_eq_of_le (Nat.le_of_lt_succ hst) with h | h
    · have := q st h j hj
      have := (inn i a).1
      omega
    · subst h; exact (inn st a).2 j hj)
  rw [Nat.zero_add] at h
  exact h st h1 j h2
theorem net_nil {L : List (ByteArray × Int × Int)} {de : Int} : S.netE L.length (fun j => (S.at' L j).1) (fun j => (S.at' L j).2.1) (fun j => (S.at' L j).2.2) de = S.netL L de := rfl
theorem lat_of {n : Nat} {v g : Nat → Int} {de st k l p : Int} (h1 : 0 ≤ st ∧ st < (n : Int)) (h : S.okF n k l p) : S.latS n v g de 0 st k l p = (S.latI n v g de st k l p, 0) := by
  unfold S.latS
  rw [if_pos rfl, if_pos h1, if_pos (fail_t h)]
inductive St8 where
  | h0 (x0 : Int) (x1 : List (ByteArray × Int × Int)) (x2 : List (Int × Int × Int)) (x3 : List Int)
  | h1 (x0 : Int) (x1 : Int) (x2 : List (ByteArray × Int × Int)) (x3 : List (Int × Int × Int)) (x4 : List Int)
abbrev Rt8 := Bool
noncomputable def V8 (al nl ml : Nat) (tl : Nat → Int) (vl : Nat → Int) (de : Int) (aw nw mw : Nat) (tw : Nat → Int) (r : Rt8) : PV := PV.bool r
noncomputable def N8 (al nl ml : Nat) (tl : Nat → Int) (vl : Nat → Int) (de : Int) (aw nw mw : Nat) (tw : Nat → Int) (r : Rt8) : List Blk := []
noncomputable def I8 (al nl ml : Nat) (tl : Nat → Int) (vl : Nat → Int) (de : Int) (aw nw mw : Nat) (tw : Nat → Int) : St8 → Hd
  | .h0 x0 x1 x2 x3 => ⟨hd Try.f8 0, [PV.ptr (PA.mk (2) (0) (0) (0)),
 PV.int IntKind.i64
 (Prod.fst
 (S.worE (List.length (S.madeL nl (fun (j : Nat) => tl (j + al)) fun (j : Nat) => vl (j + al)))
 (S.netE (List.length (S.madeL nl (fun (j : Nat) => tl (j + al)) fun (j : Nat) => vl (j + al)))
 (fun (j : Nat) =>
 (S.at' (S.madeL nl (fun (j : Nat) => tl (j + al)) fun (j : Nat) => vl (j + al)) j).1)
 (fun (j : Nat) =>
 Prod.fst
 ((S.at' (S.madeL nl (fun (j : Nat) => tl (j + al)) fun (j : Nat) => vl (j + al)) j).2))
 (fun (j : Nat) =>
 Prod.snd
 ((S.at' (S.madeL nl (fun (j : Nat) => tl (j + al)) fun (j : Nat) => vl (j + al)) j).2))
 de)
 (fun (j : Nat) =>
 Prod.fst
 ((S.at' (S.madeL nl (fun (j : Nat) => tl (j + al)) fun (j : Nat) => vl (j + al)) j).2))
 (fun (j : Nat) =>
 Prod.snd
 ((S.at' (S.madeL nl (fun (j : Nat) => tl (j + al)) fun (j : Nat) => vl (j + al)) j).2))
 de)),
 PV.own (4) (3) (List.length x2), PV.own (5) (1) (List.length x3),
 PV.loose (PA.mk (1) (1) aw (0)) nw, PV.int IntKind.i64 (↑nw : Int),
 PV.int IntKind.i64 x0, PV.unk, PV.unk, PV.unk], [[(2, (true, Blk.cells [PV.own (3) (3) (List.length x1), PV.int IntKind.i64 de])), (3, (true, Blk.cols (List.length x1)
 [Col.str fun (j : Nat) => (S.at' x1 j).1,
 Col.int IntKind.i64 fun (j : Nat) => (S.at' x1 j).2.1,
 Col.int IntKind.i64 fun (j : Nat) => (S.at' x1 j).2.2])), (4, (true, Blk.cols (List.length x2)
 [Col.int IntKind.i64 fun (j : Nat) => (S.at' x2 j).1,
 Col.int IntKind.i64 fun (j : Nat) => (S.at' x2 j).2.1,
 Col.int IntKind.i64 fun (j : Nat) => (S.at' x2 j).2.2])), (5, (true, Blk.cols (List.length x3) [Col.int IntKind.i64 fun (j : Nat) => S.at' x3 j]))], [(0, (false, .cols ml [.int .u8 tl, .int .u8 vl])), (1, (false, .cols mw [.int .u8 tw]))]], 6⟩
  | .h1 x0 x1 x2 x3 x4 => ⟨hd Try.f8 1, [PV.ptr (PA.mk (2) (0) (0) (0)),
 PV.int IntKind.i64
 (Prod.fst
 (S.worE (List.length (S.madeL nl (fun (j : Nat) => tl (j + al)) fun (j : Nat) => vl (j + al)))
 (S.netE (List.length (S.madeL nl (fun (j : Nat) => tl (j + al)) fun (j : Nat) => vl (j + al)))
 (fun (j : Nat) =>
 (S.at' (S.madeL nl (fun (j : Nat) => tl (j + al)) fun (j : Nat) => vl (j + al)) j).1)
 (fun (j : Nat) =>
 Prod.fst
 ((S.at' (S.madeL nl (fun (j : Nat) => tl (j + al)) fun (j : Nat) => vl (j + al)) j).2))
 (fun (j : Nat) =>
 Prod.snd
 ((S.at' (S.madeL nl (fun (j : Nat) => tl (j + al)) fun (j : Nat) => vl (j + al)) j).2))
 de)
 (fun (j : Nat) =>
 Prod.fst
 ((S.at' (S.madeL nl (fun (j : Nat) => tl (j + al)) fun (j : Nat) => vl (j + al)) j).2))
 (fun (j : Nat) =>
 Prod.snd
 ((S.at' (S.madeL nl (fun (j : Nat) => tl (j + al)) fun (j : Nat) => vl (j + al)) j).2))
 de)),
 PV.unk, PV.own (5) (1) (List.length x4), PV.unk, PV.unk, PV.unk,
 PV.own (4) (3) (List.length x3), PV.int IntKind.i64 x0, PV.int IntKind.i64 x1], [[(2, (true, Blk.cells [PV.own (3) (3) (List.length x2), PV.int IntKind.i64 de])), (3, (true, Blk.cols (List.length x2)
 [Col.str fun (j : Nat) => (S.at' x2 j).1,
 Col.int IntKind.i64 fun (j : Nat) => (S.at' x2 j).2.1,
 Col.int IntKind.i64 fun (j : Nat) => (S.at' x2 j).2.2])), (4, (true, Blk.cols (List.length x3)
 [Col.int IntKind.i64 fun (j : Nat) => (S.at' x3 j).1,
 Col.int IntKind.i64 fun (j : Nat) => (S.at' x3 j).2.1,
 Col.int IntKind.i64 fun (j : Nat) => (S.at' x3 j).2.2])), (5, (true, Blk.cols (List.length x4) [Col.int IntKind.i64 fun (j : Nat) => S.at' x4 j]))], [(0, (false, .cols ml [.int .u8 tl, .int .u8 vl])), (1, (false, .cols mw [.int .u8 tw]))]], 6⟩
noncomputable def q8 (al nl ml : Nat) (tl : Nat → Int) (vl : Nat → Int) (de : Int) (aw nw mw : Nat) (tw : Nat → Int) : St8 → Option (St8 ⊕ Rt8)
  | .h0 x0 x1 x2 x3 => bif (decide (x0 < (↑nw : Int)))
 then (bif (decide ((0 : Int) ≤ x0 ∧ x0 < (↑nw : Int)))
 then (bif (decide (Int.toNat x0 + aw < mw))
 then (bif (lim IntKind.i64 (tw (Int.toNat x0 + aw)))
 then (bif (decide ((↑(List.length x1) : Int) = (0 : Int)))
 then (none)
 else (bif (decide (List.length x3 + 1 ≤ 1000000))
 then (bif (decide (List.length x3 ≤ List.length x3))
 then (bif (lim IntKind.i64 (x0 + (1 : Int)))
 then (some (.inl (.h0 (x0 + (1 : Int)) (x1) (x2) (S.snoc x3 (Int.tmod (tw (Int.toNat x0 + aw)) (↑(List.length x1) : Int))))))
 else (none))
 else (none))
 else (none)))
 else (none))
 else (none))
 else (none))
 else (bif (decide (1 + List.length x2 ≤ 1000000))
 then (bif (decide (0 + List.length x2 ≤ List.length x2))
 then (some (.inl (.h1 ((↑(1 + List.length x2) : Int)) ((0 : Int)) (x1) (S.mkl (1 + List.length x2) fun (j : Nat) =>
 (bif Nat.blt j (1) then (0 : Int) else (S.at' x2 (j - 1)).1,
 bif Nat.blt j (1) then (0 : Int) else (S.at' x2 (j - 1)).2.1,
 bif Nat.blt j (1) then (0 : Int) else (S.at' x2 (j - 1)).2.2)) (x3))))
 else (none))
 else (none))
  | .h1 x0 x1 x2 x3 x4 => bif (decide (x1 < x0))
 then (bif (decide ((0 : Int) ≤ x1 ∧ x1 < (↑(List.length x3) : Int)))
 then (bif (decide (Int.toNat x1 < List.length x3))
 then (bif (decide
 (0 + List.length x2 ≤ List.length x2 ∧
 List.length x2 ≤ 1000000 ∧
 (0 + List.length x4 ≤ List.length x4 ∧ List.length x4 ≤ 1000000) ∧
 1 ≤ 1 ∧ 1 ≤ 1000000))
 then (bif (Prod.fst
 (S.safS (List.length x2)
 (S.netE (List.length x2) (fun (j : Nat) => (S.at' x2 j).1)
 (fun (j : Nat) => (S.at' x2 j).2.1)
 (fun (j : Nat) => (S.at' x2 j).2.2) de)
 (List.length x4) (fun (j : Nat) => S.at' x4 j) (1)
 (fun (j : Nat) => S.lit [(S.at' x3 (Int.toNat x1)).1] (0 : Int) j)
 (fun (j : Nat) => S.lit [(S.at' x3 (Int.toNat x1)).2.1] (0 : Int) j) fun (j : Nat) =>
 S.lit [(S.at' x3 (Int.toNat x1)).2.2] (0 : Int) j))
 then (bif (decide ((0 : Int) ≤ (0 : Int) ∧ (0 : Int) < (↑(List.length x4) : Int)))
 then (bif (decide (0 < List.length x4))
 then (bif (decide (0 + List.length x2 ≤ List.length x2 ∧ List.length x2 ≤ 1000000))
 then (bif (Prod.snd
 (S.safS (List.length x2)
 (S.netE (List.length x2) (fun (j : Nat) => (S.at' x2 j).1)
 (fun (j : Nat) => (S.at' x2 j).2.1)
 (fun (j : Nat) => (S.at' x2 j).2.2) de)
 (List.length x4) (fun (j : Nat) => S.at' x4 j) (1)
 (fun (j : Nat) => S.lit [(S.at' x3 (Int.toNat x1)).1] (0 : Int) j)
 (fun (j : Nat) => S.lit [(S.at' x3 (Int.toNat x1)).2.1] (0 : Int) j) fun (j : Nat) =>
 S.lit [(S.at' x3 (Int.toNat x1)).2.2] (0 : Int) j) !=
 (0 : Int))
 then (some (.inr (false)))
 else (bif (Prod.snd
 (S.latS (List.length x2) (fun (j : Nat) => (S.at' x2 j).2.1)
 (fun (j : Nat) => (S.at' x2 j).2.2) de
 (S.netE (List.length x2) (fun (j : Nat) => (S.at' x2 j).1)
 (fun (j : Nat) => (S.at' x2 j).2.1)
 (fun (j : Nat) => (S.at' x2 j).2.2) de)
 (S.at' x4 (0)) ((S.at' x3 (Int.toNat x1)).1)
 ((S.at' x3 (Int.toNat x1)).2.1) ((S.at' x3 (Int.toNat x1)).2.2)) !=
 (0 : Int))
 then (some (.inr (false)))
 else (bif (decide
 (Prod.fst
 (S.latS (List.length x2) (fun (j : Nat) => (S.at' x2 j).2.1)
 (fun (j : Nat) => (S.at' x2 j).2.2) de
 (S.netE (List.length x2) (fun (j : Nat) => (S.at' x2 j).1)
 (fun (j : Nat) => (S.at' x2 j).2.1)
 (fun (j : Nat) => (S.at' x2 j).2.2) de)
 (S.at' x4 (0)) ((S.at' x3 (Int.toNat x1)).1)
 ((S.at' x3 (Int.toNat x1)).2.1) ((S.at' x3 (Int.toNat x1)).2.2)) <
 (0 : Int)))
 then (some (.inr (false)))
 else (bif (decide
 (Prod.fst
 (S.latS (List.length x2) (fun (j : Nat) => (S.at' x2 j).2.1)
 (fun (j : Nat) => (S.at' x2 j).2.2) de
 (S.netE (List.length x2) (fun (j : Nat) => (S.at' x2 j).1)
 (fun (j : Nat) => (S.at' x2 j).2.1)
 (fun (j : Nat) => (S.at' x2 j).2.2) de)
 (S.at' x4 (0)) ((S.at' x3 (Int.toNat x1)).1)
 ((S.at' x3 (Int.toNat x1)).2.1) ((S.at' x3 (Int.toNat x1)).2.2)) >
 Prod.fst
 (S.worE (List.length (S.madeL nl (fun (j : Nat) => tl (j + al)) fun (j : Nat) => vl (j + al)))
 (S.netE (List.length (S.madeL nl (fun (j : Nat) => tl (j + al)) fun (j : Nat) => vl (j + al)))
 (fun (j : Nat) =>
 (S.at' (S.madeL nl (fun (j : Nat) => tl (j + al)) fun (j : Nat) => vl (j + al)) j).1)
 (fun (j : Nat) =>
 Prod.fst
 ((S.at' (S.madeL nl (fun (j : Nat) => tl (j + al)) fun (j : Nat) => vl (j + al)) j).2))
 (fun (j : Nat) =>
 Prod.snd
 ((S.at' (S.madeL nl (fun (j : Nat) => tl (j + al)) fun (j : Nat) => vl (j + al)) j).2))
 de)
 (fun (j : Nat) =>
 Prod.fst
 ((S.at' (S.madeL nl (fun (j : Nat) => tl (j + al)) fun (j : Nat) => vl (j + al)) j).2))
 (fun (j : Nat) =>
 Prod.snd
 ((S.at' (S.madeL nl (fun (j : Nat) => tl (j + al)) fun (j : Nat) => vl (j + al)) j).2))
 de)))
 then (some (.inr (false)))
 else (bif (lim IntKind.i64 (x1 + (1 : Int)))
 then (some (.inl (.h1 (x0) (x1 + (1 : Int)) (x2) (x3) (x4))))
 else (none))))))
 else (none))
 else (none))
 else (none))
 else (bif (decide ((0 : Int) ≤ (0 : Int) ∧ (0 : Int) < (↑(List.length x4) : Int)))
 then (bif (decide (0 < List.length x4))
 then (bif (decide (0 + List.length x2 ≤ List.length x2 ∧ List.length x2 ≤ 1000000))
 then (bif (Prod.snd
 (S.safS (List.length x2)
 (S.netE (List.length x2) (fun (j : Nat) => (S.at' x2 j).1)
 (fun (j : Nat) => (S.at' x2 j).2.1)
 (fun (j : Nat) => (S.at' x2 j).2.2) de)
 (List.length x4) (fun (j : Nat) => S.at' x4 j) (1)
 (fun (j : Nat) => S.lit [(S.at' x3 (Int.toNat x1)).1] (0 : Int) j)
 (fun (j : Nat) => S.lit [(S.at' x3 (Int.toNat x1)).2.1] (0 : Int) j) fun (j : Nat) =>
 S.lit [(S.at' x3 (Int.toNat x1)).2.2] (0 : Int) j) !=
 (0 : Int))
 then (some (.inr (false)))
 else (some (.inr (false))))
 else (none))
 else (none))
 else (none)))
 else (none))
 else (none))
 else (none))
 else (some (.inr (true)))
noncomputable def p8 (al nl ml : Nat) (tl : Nat → Int) (vl : Nat → Int) (de : Int) (aw nw mw : Nat) (tw : Nat → Int) : Option (St8 ⊕ Rt8) := bif (decide ((↑nl : Int) > (8 : Int)))
 then (some (.inr (true)))
 else (bif (decide ((↑nw : Int) > (8 : Int)))
 then (some (.inr (true)))
 else (bif ((↑nw : Int) == (0 : Int))
 then (some (.inr (true)))
 else (bif (decide
 ((al + nl ≤ ml ∧ nl ≤ 1000000) ∧
 ((0 : Int) ≤ de ∧ de ≤ (255 : Int)) ∧
 S.byB (fun (j : Nat) => tl (j + al)) nl = true ∧
 S.byB (fun (j : Nat) => vl (j + al)) nl = true))
 then (bif (decide
 (0 + List.length (S.madeL nl (fun (j : Nat) => tl (j + al)) fun (j : Nat) => vl (j + al)) ≤
 List.length (S.madeL nl (fun (j : Nat) => tl (j + al)) fun (j : Nat) => vl (j + al)) ∧
 List.length (S.madeL nl (fun (j : Nat) => tl (j + al)) fun (j : Nat) => vl (j + al)) ≤ 1000000))
 then (bif (Prod.snd
 (Prod.snd
 (Prod.snd
 (Prod.snd
 (Prod.snd
 (S.worE (List.length (S.madeL nl (fun (j : Nat) => tl (j + al)) fun (j : Nat) => vl (j + al)))
 (S.netE (List.length (S.madeL nl (fun (j : Nat) => tl (j + al)) fun (j : Nat) => vl (j + al)))
 (fun (j : Nat) =>
 Prod.fst
 (S.at' (S.madeL nl (fun (j : Nat) => tl (j + al)) fun (j : Nat) => vl (j + al)) j))
 (fun (j : Nat) =>
 Prod.fst
 (Prod.snd
 (S.at' (S.madeL nl (fun (j : Nat) => tl (j + al)) fun (j : Nat) => vl (j + al)) j)))
 (fun (j : Nat) =>
 Prod.snd
 (Prod.snd
 (S.at' (S.madeL nl (fun (j : Nat) => tl (j + al)) fun (j : Nat) => vl (j + al)) j)))
 de)
 (fun (j : Nat) =>
 Prod.fst
 (Prod.snd
 (S.at' (S.madeL nl (fun (j : Nat) => tl (j + al)) fun (j : Nat) => vl (j + al)) j)))
 (fun (j : Nat) =>
 Prod.snd
 (Prod.snd
 (S.at' (S.madeL nl (fun (j : Nat) => tl (j + al)) fun (j : Nat) => vl (j + al)) j)))
 de))))) !=
 (0 : Int))
 then (some (.inr (false)))
 else (bif (Prod.fst
 (S.faiS (List.length (S.madeL nl (fun (j : Nat) => tl (j + al)) fun (j : Nat) => vl (j + al)))
 (S.netE (List.length (S.madeL nl (fun (j : Nat) => tl (j + al)) fun (j : Nat) => vl (j + al)))
 (fun (j : Nat) =>
 (S.at' (S.madeL nl (fun (j : Nat) => tl (j + al)) fun (j : Nat) => vl (j + al)) j).1)
 (fun (j : Nat) =>
 Prod.fst
 ((S.at' (S.madeL nl (fun (j : Nat) => tl (j + al)) fun (j : Nat) => vl (j + al)) j).2))
 (fun (j : Nat) =>
 Prod.snd
 ((S.at' (S.madeL nl (fun (j : Nat) => tl (j + al)) fun (j : Nat) => vl (j + al)) j).2))
 de)) !=
 (0 : Int))
 then (some (.inr (false)))
 else (some (.inl (.h0 ((0 : Int)) (S.madeL nl (fun (j : Nat) => tl (j + al)) fun (j : Nat) => vl (j + al)) (Prod.snd
 (S.faiS (List.length (S.madeL nl (fun (j : Nat) => tl (j + al)) fun (j : Nat) => vl (j + al)))
 (S.netE (List.length (S.madeL nl (fun (j : Nat) => tl (j + al)) fun (j : Nat) => vl (j + al)))
 (fun (j : Nat) =>
 (S.at' (S.madeL nl (fun (j : Nat) => tl (j + al)) fun (j : Nat) => vl (j + al)) j).1)
 (fun (j : Nat) =>
 Prod.fst
 ((S.at' (S.madeL nl (fun (j : Nat) => tl (j + al)) fun (j : Nat) => vl (j + al)) j).2))
 (fun (j : Nat) =>
 Prod.snd
 ((S.at' (S.madeL nl (fun (j : Nat) => tl (j + al)) fun (j : Nat) => vl (j + al)) j).2))
 de))) ([]))))))
 else (none))
 else (none))))
noncomputable def Te8 (test : Bool → Prop → Prop → Prop) (Kst : KS) (Kret : KR) (al nl ml : Nat) (tl : Nat → Int) (vl : Nat → Int) (de : Int) (aw nw mw : Nat) (tw : Nat → Int) : Prop :=
  test (true)
 (test (true)
 (test (decide ((↑nl : Int) > (8 : Int)))
 (test (true)
 (test (true)
 (Kret (PV.tf true) ([[(1, false, Blk.cols mw [Col.int IntKind.u8 tw]),
 (0, false, Blk.cols ml [Col.int IntKind.u8 tl, Col.int IntKind.u8 vl])]]) (4))
 (Kret (PV.tf false) ([[(1, false, Blk.cols mw [Col.int IntKind.u8 tw]),
 (0, false, Blk.cols ml [Col.int IntKind.u8 tl, Col.int IntKind.u8 vl])]]) (4)))
 (False))
 (test (decide ((↑nw : Int) > (8 : Int)))
 (test (true)
 (test (true)
 (Kret (PV.tf true) ([[(1, false, Blk.cols mw [Col.int IntKind.u8 tw]),
 (0, false, Blk.cols ml [Col.int IntKind.u8 tl, Col.int IntKind.u8 vl])]]) (4))
 (Kret (PV.tf false) ([[(1, false, Blk.cols mw [Col.int IntKind.u8 tw]),
 (0, false, Blk.cols ml [Col.int IntKind.u8 tl, Col.int IntKind.u8 vl])]]) (4)))
 (False))
 (test ((↑nw : Int) == (0 : Int))
 (test (true)
 (test (true)
 (Kret (PV.tf true) ([[(1, false, Blk.cols mw [Col.int IntKind.u8 tw]),
 (0, false, Blk.cols ml [Col.int IntKind.u8 tl, Col.int IntKind.u8 vl])]]) (4))
 (Kret (PV.tf false) ([[(1, false, Blk.cols mw [Col.int IntKind.u8 tw]),
 (0, false, Blk.cols ml [Col.int IntKind.u8 tl, Col.int IntKind.u8 vl])]]) (4)))
 (False))
 (test (decide
 ((al + nl ≤ ml ∧ nl ≤ 1000000) ∧
 ((0 : Int) ≤ de ∧ de ≤ (255 : Int)) ∧
 S.byB (fun (j : Nat) => tl (j + al)) nl = true ∧
 S.byB (fun (j : Nat) => vl (j + al)) nl = true))
 (test (decide
 (0 + List.length (S.madeL nl (fun (j : Nat) => tl (j + al)) fun (j : Nat) => vl (j + al)) ≤
 List.length (S.madeL nl (fun (j : Nat) => tl (j + al)) fun (j : Nat) => vl (j + al)) ∧
 List.length (S.madeL nl (fun (j : Nat) => tl (j + al)) fun (j : Nat) => vl (j + al)) ≤ 1000000))
 (test (decide
 (0 + List.length (S.madeL nl (fun (j : Nat) => tl (j + al)) fun (j : Nat) => vl (j + al)) ≤
 List.length (S.madeL nl (fun (j : Nat) => tl (j + al)) fun (j : Nat) => vl (j + al)) ∧
 List.length (S.madeL nl (fun (j : Nat) => tl (j + al)) fun (j : Nat) => vl (j + al)) ≤ 1000000))
 (test (Prod.snd
 (Prod.snd
 (Prod.snd
 (Prod.snd
 (Prod.snd
 (S.worE (List.length (S.madeL nl (fun (j : Nat) => tl (j + al)) fun (j : Nat) => vl (j + al)))
 (S.netE (List.length (S.madeL nl (fun (j : Nat) => tl (j + al)) fun (j : Nat) => vl (j + al)))
 (fun (j : Nat) =>
 Prod.fst
 (S.at' (S.madeL nl (fun (j : Nat) => tl (j + al)) fun (j : Nat) => vl (j + al)) j))
 (fun (j : Nat) =>
 Prod.fst
 (Prod.snd
 (S.at' (S.madeL nl (fun (j : Nat) => tl (j + al)) fun (j : Nat) => vl (j + al)) j)))
 (fun (j : Nat) =>
 Prod.snd
 (Prod.snd
 (S.at' (S.madeL nl (fun (j : Nat) => tl (j + al)) fun (j : Nat) => vl (j + al)) j)))
 de)
 (fun (j : Nat) =>
 Prod.fst
 (Prod.snd
 (S.at' (S.madeL nl (fun (j : Nat) => tl (j + al)) fun (j : Nat) => vl (j + al)) j)))
 (fun (j : Nat) =>
 Prod.snd
 (Prod.snd
 (S.at' (S.madeL nl (fun (j : Nat) => tl (j + al)) fun (j : Nat) => vl (j + al)) j)))
 de))))) !=
 (0 : Int))
 (Kret (PV.tf false) ([[(1, false, Blk.cols mw [Col.int IntKind.u8 tw]),
 (0, false, Blk.cols ml [Col.int IntKind.u8 tl, Col.int IntKind.u8 vl])]]) (10))
 (test (Prod.fst
 (S.faiS (List.length (S.madeL nl (fun (j : Nat) => tl (j + al)) fun (j : Nat) => vl (j + al)))
 (S.netE (List.length (S.madeL nl (fun (j : Nat) => tl (j + al)) fun (j : Nat) => vl (j + al)))
 (fun (j : Nat) =>
 (S.at' (S.madeL nl (fun (j : Nat) => tl (j + al)) fun (j : Nat) => vl (j + al)) j).1)
 (fun (j : Nat) =>
 Prod.fst
 ((S.at' (S.madeL nl (fun (j : Nat) => tl (j + al)) fun (j : Nat) => vl (j + al)) j).2))
 (fun (j : Nat) =>
 Prod.snd
 ((S.at' (S.madeL nl (fun (j : Nat) => tl (j + al)) fun (j : Nat) => vl (j + al)) j).2))
 de)) !=
 (0 : Int))
 (Kret (PV.tf false) ([[(1, false, Blk.cols mw [Col.int IntKind.u8 tw]),
 (0, false, Blk.cols ml [Col.int IntKind.u8 tl, Col.int IntKind.u8 vl])]]) (10))
 (Kst (hd Try.f8 0) ([PV.ptr (PA.mk (5) (0) (0) (0)),
 PV.int IntKind.i64
 (Prod.fst
 (S.worE (List.length (S.madeL nl (fun (j : Nat) => tl (j + al)) fun (j : Nat) => vl (j + al)))
 (S.netE (List.length (S.madeL nl (fun (j : Nat) => tl (j + al)) fun (j : Nat) => vl (j + al)))
 (fun (j : Nat) =>
 (S.at' (S.madeL nl (fun (j : Nat) => tl (j + al)) fun (j : Nat) => vl (j + al)) j).1)
 (fun (j : Nat) =>
 Prod.fst
 ((S.at' (S.madeL nl (fun (j : Nat) => tl (j + al)) fun (j : Nat) => vl (j + al)) j).2))
 (fun (j : Nat) =>
 Prod.snd
 ((S.at' (S.madeL nl (fun (j : Nat) => tl (j + al)) fun (j : Nat) => vl (j + al)) j).2))
 de)
 (fun (j : Nat) =>
 Prod.fst
 ((S.at' (S.madeL nl (fun (j : Nat) => tl (j + al)) fun (j : Nat) => vl (j + al)) j).2))
 (fun (j : Nat) =>
 Prod.snd
 ((S.at' (S.madeL nl (fun (j : Nat) => tl (j + al)) fun (j : Nat) => vl (j + al)) j).2))
 de)),
 PV.own (9) (3)
 (List.length
 (Prod.snd
 (S.faiS (List.length (S.madeL nl (fun (j : Nat) => tl (j + al)) fun (j : Nat) => vl (j + al)))
 (S.netE (List.length (S.madeL nl (fun (j : Nat) => tl (j + al)) fun (j : Nat) => vl (j + al)))
 (fun (j : Nat) =>
 (S.at' (S.madeL nl (fun (j : Nat) => tl (j + al)) fun (j : Nat) => vl (j + al)) j).1)
 (fun (j : Nat) =>
 Prod.fst
 (Prod.snd
 (S.at' (S.madeL nl (fun (j : Nat) => tl (j + al)) fun (j : Nat) => vl (j + al)) j)))
 (fun (j : Nat) =>
 Prod.snd
 (Prod.snd
 (S.at' (S.madeL nl (fun (j : Nat) => tl (j + al)) fun (j : Nat) => vl (j + al)) j)))
 de)))),
 PV.nils, PV.loose (PA.mk (1) (1) aw (0)) nw,
 PV.int IntKind.i64 (↑nw : Int), PV.int IntKind.i64 (0 : Int), PV.unk, PV.unk,
 PV.unk]) ([[(1, false, Blk.cols mw [Col.int IntKind.u8 tw]),
 (0, false, Blk.cols ml [Col.int IntKind.u8 tl, Col.int IntKind.u8 vl]),
 (9, true,
 Blk.cols
 (List.length
 (Prod.snd
 (S.faiS (List.length (S.madeL nl (fun (j : Nat) => tl (j + al)) fun (j : Nat) => vl (j + al)))
 (S.netE (List.length (S.madeL nl (fun (j : Nat) => tl (j + al)) fun (j : Nat) => vl (j + al)))
 (fun (j : Nat) =>
 Prod.fst
 (S.at' (S.madeL nl (fun (j : Nat) => tl (j + al)) fun (j : Nat) => vl (j + al)) j))
 (fun (j : Nat) =>
 Prod.fst
 (Prod.snd
 (S.at' (S.madeL nl (fun (j : Nat) => tl (j + al)) fun (j : Nat) => vl (j + al)) j)))
 (fun (j : Nat) =>
 Prod.snd
 (Prod.snd
 (S.at' (S.madeL nl (fun (j : Nat) => tl (j + al)) fun (j : Nat) => vl (j + al)) j)))
 de))))
 [Col.int IntKind.i64 fun (j : Nat) =>
 Prod.fst
 (S.at'
 (Prod.snd
 (S.faiS
 (List.length (S.madeL nl (fun (j : Nat) => tl (j + al)) fun (j : Nat) => vl (j + al)))
 (S.netE
 (List.length (S.madeL nl (fun (j : Nat) => tl (j + al)) fun (j : Nat) => vl (j + al)))
 (fun (j : Nat) =>
 Prod.fst
 (S.at' (S.madeL nl (fun (j : Nat) => tl (j + al)) fun (j : Nat) => vl (j + al))
 j))
 (fun (j : Nat) =>
 Prod.fst
 (Prod.snd
 (S.at' (S.madeL nl (fun (j : Nat) => tl (j + al)) fun (j : Nat) => vl (j + al))
 j)))
 (fun (j : Nat) =>
 Prod.snd
 (Prod.snd
 (S.at' (S.madeL nl (fun (j : Nat) => tl (j + al)) fun (j : Nat) => vl (j + al))
 j)))
 de)))
 j),
 Col.int IntKind.i64 fun (j : Nat) =>
 Prod.fst
 (Prod.snd
 (S.at'
 (Prod.snd
 (S.faiS
 (List.length (S.madeL nl (fun (j : Nat) => tl (j + al)) fun (j : Nat) => vl (j + al)))
 (S.netE
 (List.length (S.madeL nl (fun (j : Nat) => tl (j + al)) fun (j : Nat) => vl (j + al)))
 (fun (j : Nat) =>
 Prod.fst
 (S.at' (S.madeL nl (fun (j : Nat) => tl (j + al)) fun (j : Nat) => vl (j + al))
 j))
 (fun (j : Nat) =>
 Prod.fst
 (Prod.snd
 (S.at'
 (S.madeL nl (fun (j : Nat) => tl (j + al)) fun (j : Nat) => vl (j + al)) j)))
 (fun (j : Nat) =>
 Prod.snd
 (Prod.snd
 (S.at'
 (S.madeL nl (fun (j : Nat) => tl (j + al)) fun (j : Nat) => vl (j + al)) j)))
 de)))
 j)),
 Col.int IntKind.i64 fun (j : Nat) =>
 Prod.snd
 (Prod.snd
 (S.at'
 (Prod.snd
 (S.faiS
 (List.length (S.madeL nl (fun (j : Nat) => tl (j + al)) fun (j : Nat) => vl (j + al)))
 (S.netE
 (List.length (S.madeL nl (fun (j : Nat) => tl (j + al)) fun (j : Nat) => vl (j + al)))
 (fun (j : Nat) =>
 Prod.fst
 (S.at' (S.madeL nl (fun (j : Nat) => tl (j + al)) fun (j : Nat) => vl (j + al))
 j))
 (fun (j : Nat) =>
 Prod.fst
 (Prod.snd
 (S.at'
 (S.madeL nl (fun (j : Nat) => tl (j + al)) fun (j : Nat) => vl (j + al)) j)))
 (fun (j : Nat) =>
 Prod.snd
 (Prod.snd
 (S.at'
 (S.madeL nl (fun (j : Nat) => tl (j + al)) fun (j : Nat) => vl (j + al)) j)))
 de)))
 j))]),
 (5, true,
 Blk.cells
 [PV.own (4) (3)
 (List.length (S.madeL nl (fun (j : Nat) => tl (j + al)) fun (j : Nat) => vl (j + al))),
 PV.int IntKind.i64 de]),
 (4, true,
 Blk.cols (List.length (S.madeL nl (fun (j : Nat) => tl (j + al)) fun (j : Nat) => vl (j + al)))
 [Col.str fun (j : Nat) =>
 (S.at' (S.madeL nl (fun (j : Nat) => tl (j + al)) fun (j : Nat) => vl (j + al)) j).1,
 Col.int IntKind.i64 fun (j : Nat) =>
 Prod.fst
 ((S.at' (S.madeL nl (fun (j : Nat) => tl (j + al)) fun (j : Nat) => vl (j + al)) j).2),
 Col.int IntKind.i64 fun (j : Nat) =>
 Prod.snd
 (Prod.snd
 (S.at' (S.madeL nl (fun (j : Nat) => tl (j + al)) fun (j : Nat) => vl (j + al)) j))])]]) (10))))
 (False))
 (False))
 (False)))))
 (test (true)
 (test (true)
 (Kret (PV.tf true) ([[(1, false, Blk.cols mw [Col.int IntKind.u8 tw]),
 (0, false, Blk.cols ml [Col.int IntKind.u8 tl, Col.int IntKind.u8 vl])]]) (4))
 (Kret (PV.tf false) ([[(1, false, Blk.cols mw [Col.int IntKind.u8 tw]),
 (0, false, Blk.cols ml [Col.int IntKind.u8 tl, Col.int IntKind.u8 vl])]]) (4)))
 (False)))
 (False)
set_option maxRecDepth 100000 in
theorem te8 (test : Bool → Prop → Prop → Prop) (Kst : KS) (Kret : KR) (al nl ml : Nat) (tl : Nat → Int) (vl : Nat → Int) (de : Int) (aw nw mw : Nat) (tw : Nat → Int) : run test Try.env true (xL5 test) true 400 ⟨8, [.cd (mkFn Try.f8).body], argT 0 [.loose ⟨0, 2, al, 0⟩ nl, .int .u8 de, .loose ⟨1, 1, aw, 0⟩ nw], [[], [(0, (false, .cols ml [.int .u8 tl, .int .u8 vl])), (1, (false, .cols mw [.int .u8 tw]))]], 2⟩ (proj 2 [7, 8, 12, 14, 62, 63, 64, 81, 82, 83] Kst Kret) =
  Te8 test Kst Kret al nl ml tl vl de aw nw mw tw := by kernel_rfl
noncomputable def T8_0 (test : Bool → Prop → Prop → Prop) (Kst : KS) (Kret : KR) (al nl ml : Nat) (tl : Nat → Int) (vl : Nat → Int) (de : Int) (aw nw mw : Nat) (tw : Nat → Int) (x0 : Int) (x1 : List (ByteArray × Int × Int)) (x2 : List (Int × Int × Int)) (x3 : List Int) : Prop :=
  test (decide (x0 < (↑nw : Int)))
 (test (decide ((0 : Int) ≤ x0 ∧ x0 < (↑nw : Int)))
 (test (decide (Int.toNat x0 + aw < mw))
 (test (lim IntKind.i64 (tw (Int.toNat x0 + aw)))
 (test (decide ((↑(List.length x1) : Int) = (0 : Int)))
 (False)
 (test (decide (List.length x3 + 1 ≤ 1000000))
 (test (decide (List.length x3 ≤ List.length x3))
 (test (true)
 (test (lim IntKind.i64 (x0 + (1 : Int)))
 (Kst (hd Try.f8 0) ([PV.ptr (PA.mk (2) (0) (0) (0)),
 PV.int IntKind.i64
 (Prod.fst
 (S.worE (List.length (S.madeL nl (fun (j : Nat) => tl (j + al)) fun (j : Nat) => vl (j + al)))
 (S.netE (List.length (S.madeL nl (fun (j : Nat) => tl (j + al)) fun (j : Nat) => vl (j + al)))
 (fun (j : Nat) =>
 (S.at' (S.madeL nl (fun (j : Nat) => tl (j + al)) fun (j : Nat) => vl (j + al)) j).1)
 (fun (j : Nat) =>
 Prod.fst
 ((S.at' (S.madeL nl (fun (j : Nat) => tl (j + al)) fun (j : Nat) => vl (j + al)) j).2))
 (fun (j : Nat) =>
 Prod.snd
 ((S.at' (S.madeL nl (fun (j : Nat) => tl (j + al)) fun (j : Nat) => vl (j + al)) j).2))
 de)
 (fun (j : Nat) =>
 Prod.fst
 ((S.at' (S.madeL nl (fun (j : Nat) => tl (j + al)) fun (j : Nat) => vl (j + al)) j).2))
 (fun (j : Nat) =>
 Prod.snd
 ((S.at' (S.madeL nl (fun (j : Nat) => tl (j + al)) fun (j : Nat) => vl (j + al)) j).2))
 de)),
 PV.own (4) (3) (List.length x2),
 PV.own (7) (1) (List.length x3 + 1),
 PV.loose (PA.mk (1) (1) aw (0)) nw, PV.int IntKind.i64 (↑nw : Int),
 PV.int IntKind.i64 (x0 + (1 : Int)), PV.unk, PV.unk, PV.unk]) ([[(1, false, Blk.cols mw [Col.int IntKind.u8 tw]),
 (0, false, Blk.cols ml [Col.int IntKind.u8 tl, Col.int IntKind.u8 vl]),
 (7, true,
 Blk.cols (List.length x3 + 1)
 [Col.int IntKind.i64 fun (j : Nat) =>
 bif Nat.blt j (List.length x3) then S.at' x3 j
 else Int.tmod (tw (Int.toNat x0 + aw)) (↑(List.length x1) : Int)]),
 (4, true,
 Blk.cols (List.length x2)
 [Col.int IntKind.i64 fun (j : Nat) => (S.at' x2 j).1,
 Col.int IntKind.i64 fun (j : Nat) => (S.at' x2 j).2.1,
 Col.int IntKind.i64 fun (j : Nat) => (S.at' x2 j).2.2]),
 (2, true,
 Blk.cells [PV.own (3) (3) (List.length x1), PV.int IntKind.i64 de]),
 (3, true,
 Blk.cols (List.length x1)
 [Col.str fun (j : Nat) => (S.at' x1 j).1,
 Col.int IntKind.i64 fun (j : Nat) => (S.at' x1 j).2.1,
 Col.int IntKind.i64 fun (j : Nat) => (S.at' x1 j).2.2])]]) (8))
 (False))
 (False))
 (False))
 (False)))
 (False))
 (False))
 (False))
 (test (decide (1 + List.length x2 ≤ 1000000))
 (test (true)
 (test (decide (0 + List.length x2 ≤ List.length x2))
 (Kst (hd Try.f8 1) ([PV.ptr (PA.mk (2) (0) (0) (0)),
 PV.int IntKind.i64
 (Prod.fst
 (S.worE (List.length (S.madeL nl (fun (j : Nat) => tl (j + al)) fun (j : Nat) => vl (j + al)))
 (S.netE (List.length (S.madeL nl (fun (j : Nat) => tl (j + al)) fun (j : Nat) => vl (j + al)))
 (fun (j : Nat) =>
 (S.at' (S.madeL nl (fun (j : Nat) => tl (j + al)) fun (j : Nat) => vl (j + al)) j).1)
 (fun (j : Nat) =>
 Prod.fst
 ((S.at' (S.madeL nl (fun (j : Nat) => tl (j + al)) fun (j : Nat) => vl (j + al)) j).2))
 (fun (j : Nat) =>
 Prod.snd
 ((S.at' (S.madeL nl (fun (j : Nat) => tl (j + al)) fun (j : Nat) => vl (j + al)) j).2))
 de)
 (fun (j : Nat) =>
 Prod.fst
 ((S.at' (S.madeL nl (fun (j : Nat) => tl (j + al)) fun (j : Nat) => vl (j + al)) j).2))
 (fun (j : Nat) =>
 Prod.snd
 ((S.at' (S.madeL nl (fun (j : Nat) => tl (j + al)) fun (j : Nat) => vl (j + al)) j).2))
 de)),
 PV.own (4) (3) (List.length x2), PV.own (5) (1) (List.length x3),
 PV.loose (PA.mk (1) (1) aw (0)) nw, PV.int IntKind.i64 (↑nw : Int),
 PV.int IntKind.i64 x0, PV.own (7) (3) (1 + List.length x2),
 PV.int IntKind.i64 (↑(1 + List.length x2) : Int), PV.int IntKind.i64 (0 : Int)]) ([[(1, false, Blk.cols mw [Col.int IntKind.u8 tw]),
 (0, false, Blk.cols ml [Col.int IntKind.u8 tl, Col.int IntKind.u8 vl]),
 (7, true,
 Blk.cols (1 + List.length x2)
 [Col.int IntKind.i64 fun (j : Nat) =>
 bif Nat.blt j (1) then (0 : Int) else (S.at' x2 (j - 1)).1,
 Col.int IntKind.i64 fun (j : Nat) =>
 bif Nat.blt j (1) then (0 : Int) else (S.at' x2 (j - 1)).2.1,
 Col.int IntKind.i64 fun (j : Nat) =>
 bif Nat.blt j (1) then (0 : Int) else (S.at' x2 (j - 1)).2.2]),
 (5, true,
 Blk.cols (List.length x3) [Col.int IntKind.i64 fun (j : Nat) => S.at' x3 j]),
 (4, true,
 Blk.cols (List.length x2)
 [Col.int IntKind.i64 fun (j : Nat) => (S.at' x2 j).1,
 Col.int IntKind.i64 fun (j : Nat) => (S.at' x2 j).2.1,
 Col.int IntKind.i64 fun (j : Nat) => (S.at' x2 j).2.2]),
 (2, true,
 Blk.cells [PV.own (3) (3) (List.length x1), PV.int IntKind.i64 de]),
 (3, true,
 Blk.cols (List.length x1)
 [Col.str fun (j : Nat) => (S.at' x1 j).1,
 Col.int IntKind.i64 fun (j : Nat) => (S.at' x1 j).2.1,
 Col.int IntKind.i64 fun (j : Nat) => (S.at' x1 j).2.2])]]) (8))
 (False))
 (False))
 (False))
set_option maxRecDepth 100000 in
theorem t8_0 (test : Bool → Prop → Prop → Prop) (Kst : KS) (Kret : KR) (al nl ml : Nat) (tl : Nat → Int) (vl : Nat → Int) (de : Int) (aw nw mw : Nat) (tw : Nat → Int) (x0 : Int) (x1 : List (ByteArray × Int × Int)) (x2 : List (Int × Int × Int)) (x3 : List Int) : run test Try.env true (xL5 test) true 400 ⟨8, hd Try.f8 0, zipT [7, 8, 12, 14, 62, 63, 64, 81, 82, 83] [PV.ptr (PA.mk (2) (0) (0) (0)),
 PV.int IntKind.i64
 (Prod.fst
 (S.worE (List.length (S.madeL nl (fun (j : Nat) => tl (j + al)) fun (j : Nat) => vl (j + al)))
 (S.netE (List.length (S.madeL nl (fun (j : Nat) => tl (j + al)) fun (j : Nat) => vl (j + al)))
 (fun (j : Nat) =>
 (S.at' (S.madeL nl (fun (j : Nat) => tl (j + al)) fun (j : Nat) => vl (j + al)) j).1)
 (fun (j : Nat) =>
 Prod.fst
 ((S.at' (S.madeL nl (fun (j : Nat) => tl (j + al)) fun (j : Nat) => vl (j + al)) j).2))
 (fun (j : Nat) =>
 Prod.snd
 ((S.at' (S.madeL nl (fun (j : Nat) => tl (j + al)) fun (j : Nat) => vl (j + al)) j).2))
 de)
 (fun (j : Nat) =>
 Prod.fst
 ((S.at' (S.madeL nl (fun (j : Nat) => tl (j + al)) fun (j : Nat) => vl (j + al)) j).2))
 (fun (j : Nat) =>
 Prod.snd
 ((S.at' (S.madeL nl (fun (j : Nat) => tl (j + al)) fun (j : Nat) => vl (j + al)) j).2))
 de)),
 PV.own (4) (3) (List.length x2), PV.own (5) (1) (List.length x3),
 PV.loose (PA.mk (1) (1) aw (0)) nw, PV.int IntKind.i64 (↑nw : Int),
 PV.int IntKind.i64 x0, PV.unk, PV.unk, PV.unk], [[(2, (true, Blk.cells [PV.own (3) (3) (List.length x1), PV.int IntKind.i64 de])), (3, (true, Blk.cols (List.length x1)
 [Col.str fun (j : Nat) => (S.at' x1 j).1,
 Col.int IntKind.i64 fun (j : Nat) => (S.at' x1 j).2.1,
 Col.int IntKind.i64 fun (j : Nat) => (S.at' x1 j).2.2])), (4, (true, Blk.cols (List.length x2)
 [Col.int IntKind.i64 fun (j : Nat) => (S.at' x2 j).1,
 Col.int IntKind.i64 fun (j : Nat) => (S.at' x2 j).2.1,
 Col.int IntKind.i64 fun (j : Nat) => (S.at' x2 j).2.2])), (5, (true, Blk.cols (List.length x3) [Col.int IntKind.i64 fun (j : Nat) => S.at' x3 j]))], [(0, (false, .cols ml [.int .u8 tl, .int .u8 vl])), (1, (false, .cols mw [.int .u8 tw]))]], 6⟩ (proj 2 [7, 8, 12, 14, 62, 63, 64, 81, 82, 83] Kst Kret) =
  T8_0 test Kst Kret al nl ml tl vl de aw nw mw tw x0 x1 x2 x3 := by kernel_rfl
noncomputable def T8_1 (test : Bool → Prop → Prop → Prop) (Kst : KS) (Kret : KR) (al nl ml : Nat) (tl : Nat → Int) (vl : Nat → Int) (de : Int) (aw nw mw : Nat) (tw : Nat → Int) (x0 : Int) (x1 : Int) (x2 : List (ByteArray × Int × Int)) (x3 : List (Int × Int × Int)) (x4 : List Int) : Prop :=
  test (decide (x1 < x0))
 (test (decide ((0 : Int) ≤ x1 ∧ x1 < (↑(List.length x3) : Int)))
 (test (decide (Int.toNat x1 < List.length x3))
 (test (decide (Int.toNat x1 < List.length x3))
 (test (decide (Int.toNat x1 < List.length x3))
 (test (decide
 (0 + List.length x2 ≤ List.length x2 ∧
 List.length x2 ≤ 1000000 ∧
 (0 + List.length x4 ≤ List.length x4 ∧ List.length x4 ≤ 1000000) ∧
 1 ≤ 1 ∧ 1 ≤ 1000000))
 (test (Prod.fst
 (S.safS (List.length x2)
 (S.netE (List.length x2) (fun (j : Nat) => (S.at' x2 j).1)
 (fun (j : Nat) => (S.at' x2 j).2.1)
 (fun (j : Nat) => (S.at' x2 j).2.2) de)
 (List.length x4) (fun (j : Nat) => S.at' x4 j) (1)
 (fun (j : Nat) => S.lit [(S.at' x3 (Int.toNat x1)).1] (0 : Int) j)
 (fun (j : Nat) => S.lit [(S.at' x3 (Int.toNat x1)).2.1] (0 : Int) j) fun (j : Nat) =>
 S.lit [(S.at' x3 (Int.toNat x1)).2.2] (0 : Int) j))
 (test (decide ((0 : Int) ≤ (0 : Int) ∧ (0 : Int) < (↑(List.length x4) : Int)))
 (test (decide (0 < List.length x4))
 (test (decide (0 + List.length x2 ≤ List.length x2 ∧ List.length x2 ≤ 1000000))
 (test (Prod.snd
 (S.safS (List.length x2)
 (S.netE (List.length x2) (fun (j : Nat) => (S.at' x2 j).1)
 (fun (j : Nat) => (S.at' x2 j).2.1)
 (fun (j : Nat) => (S.at' x2 j).2.2) de)
 (List.length x4) (fun (j : Nat) => S.at' x4 j) (1)
 (fun (j : Nat) => S.lit [(S.at' x3 (Int.toNat x1)).1] (0 : Int) j)
 (fun (j : Nat) => S.lit [(S.at' x3 (Int.toNat x1)).2.1] (0 : Int) j) fun (j : Nat) =>
 S.lit [(S.at' x3 (Int.toNat x1)).2.2] (0 : Int) j) !=
 (0 : Int))
 (Kret (PV.tf false) ([[(1, false, Blk.cols mw [Col.int IntKind.u8 tw]),
 (0, false, Blk.cols ml [Col.int IntKind.u8 tl, Col.int IntKind.u8 vl])]]) (10))
 (test (Prod.snd
 (S.latS (List.length x2) (fun (j : Nat) => (S.at' x2 j).2.1)
 (fun (j : Nat) => (S.at' x2 j).2.2) de
 (S.netE (List.length x2) (fun (j : Nat) => (S.at' x2 j).1)
 (fun (j : Nat) => (S.at' x2 j).2.1)
 (fun (j : Nat) => (S.at' x2 j).2.2) de)
 (S.at' x4 (0)) ((S.at' x3 (Int.toNat x1)).1)
 ((S.at' x3 (Int.toNat x1)).2.1) ((S.at' x3 (Int.toNat x1)).2.2)) !=
 (0 : Int))
 (Kret (PV.tf false) ([[(1, false, Blk.cols mw [Col.int IntKind.u8 tw]),
 (0, false, Blk.cols ml [Col.int IntKind.u8 tl, Col.int IntKind.u8 vl])]]) (10))
 (test (decide
 (Prod.fst
 (S.latS (List.length x2) (fun (j : Nat) => (S.at' x2 j).2.1)
 (fun (j : Nat) => (S.at' x2 j).2.2) de
 (S.netE (List.length x2) (fun (j : Nat) => (S.at' x2 j).1)
 (fun (j : Nat) => (S.at' x2 j).2.1)
 (fun (j : Nat) => (S.at' x2 j).2.2) de)
 (S.at' x4 (0)) ((S.at' x3 (Int.toNat x1)).1)
 ((S.at' x3 (Int.toNat x1)).2.1) ((S.at' x3 (Int.toNat x1)).2.2)) <
 (0 : Int)))
 (Kret (PV.tf false) ([[(1, false, Blk.cols mw [Col.int IntKind.u8 tw]),
 (0, false, Blk.cols ml [Col.int IntKind.u8 tl, Col.int IntKind.u8 vl])]]) (10))
 (test (decide
 (Prod.fst
 (S.latS (List.length x2) (fun (j : Nat) => (S.at' x2 j).2.1)
 (fun (j : Nat) => (S.at' x2 j).2.2) de
 (S.netE (List.length x2) (fun (j : Nat) => (S.at' x2 j).1)
 (fun (j : Nat) => (S.at' x2 j).2.1)
 (fun (j : Nat) => (S.at' x2 j).2.2) de)
 (S.at' x4 (0)) ((S.at' x3 (Int.toNat x1)).1)
 ((S.at' x3 (Int.toNat x1)).2.1) ((S.at' x3 (Int.toNat x1)).2.2)) >
 Prod.fst
 (S.worE (List.length (S.madeL nl (fun (j : Nat) => tl (j + al)) fun (j : Nat) => vl (j + al)))
 (S.netE (List.length (S.madeL nl (fun (j : Nat) => tl (j + al)) fun (j : Nat) => vl (j + al)))
 (fun (j : Nat) =>
 (S.at' (S.madeL nl (fun (j : Nat) => tl (j + al)) fun (j : Nat) => vl (j + al)) j).1)
 (fun (j : Nat) =>
 Prod.fst
 ((S.at' (S.madeL nl (fun (j : Nat) => tl (j + al)) fun (j : Nat) => vl (j + al)) j).2))
 (fun (j : Nat) =>
 Prod.snd
 ((S.at' (S.madeL nl (fun (j : Nat) => tl (j + al)) fun (j : Nat) => vl (j + al)) j).2))
 de)
 (fun (j : Nat) =>
 Prod.fst
 ((S.at' (S.madeL nl (fun (j : Nat) => tl (j + al)) fun (j : Nat) => vl (j + al)) j).2))
 (fun (j : Nat) =>
 Prod.snd
 ((S.at' (S.madeL nl (fun (j : Nat) => tl (j + al)) fun (j : Nat) => vl (j + al)) j).2))
 de)))
 (Kret (PV.tf false) ([[(1, false, Blk.cols mw [Col.int IntKind.u8 tw]),
 (0, false, Blk.cols ml [Col.int IntKind.u8 tl, Col.int IntKind.u8 vl])]]) (10))
 (test (lim IntKind.i64 (x1 + (1 : Int)))
 (Kst (hd Try.f8 1) ([PV.ptr (PA.mk (2) (0) (0) (0)),
 PV.int IntKind.i64
 (Prod.fst
 (S.worE (List.length (S.madeL nl (fun (j : Nat) => tl (j + al)) fun (j : Nat) => vl (j + al)))
 (S.netE (List.length (S.madeL nl (fun (j : Nat) => tl (j + al)) fun (j : Nat) => vl (j + al)))
 (fun (j : Nat) =>
 (S.at' (S.madeL nl (fun (j : Nat) => tl (j + al)) fun (j : Nat) => vl (j + al)) j).1)
 (fun (j : Nat) =>
 Prod.fst
 ((S.at' (S.madeL nl (fun (j : Nat) => tl (j + al)) fun (j : Nat) => vl (j + al)) j).2))
 (fun (j : Nat) =>
 Prod.snd
 ((S.at' (S.madeL nl (fun (j : Nat) => tl (j + al)) fun (j : Nat) => vl (j + al)) j).2))
 de)
 (fun (j : Nat) =>
 Prod.fst
 ((S.at' (S.madeL nl (fun (j : Nat) => tl (j + al)) fun (j : Nat) => vl (j + al)) j).2))
 (fun (j : Nat) =>
 Prod.snd
 ((S.at' (S.madeL nl (fun (j : Nat) => tl (j + al)) fun (j : Nat) => vl (j + al)) j).2))
 de)),
 PV.unk, PV.own (5) (1) (List.length x4), PV.unk, PV.unk, PV.unk,
 PV.own (4) (3) (List.length x3), PV.int IntKind.i64 x0,
 PV.int IntKind.i64 (x1 + (1 : Int))]) ([[(1, false, Blk.cols mw [Col.int IntKind.u8 tw]),
 (0, false, Blk.cols ml [Col.int IntKind.u8 tl, Col.int IntKind.u8 vl]),
 (4, true,
 Blk.cols (List.length x3)
 [Col.int IntKind.i64 fun (j : Nat) => (S.at' x3 j).1,
 Col.int IntKind.i64 fun (j : Nat) => (S.at' x3 j).2.1,
 Col.int IntKind.i64 fun (j : Nat) => (S.at' x3 j).2.2]),
 (5, true,
 Blk.cols (List.length x4) [Col.int IntKind.i64 fun (j : Nat) => S.at' x4 j]),
 (2, true,
 Blk.cells [PV.own (3) (3) (List.length x2), PV.int IntKind.i64 de]),
 (3, true,
 Blk.cols (List.length x2)
 [Col.str fun (j : Nat) => (S.at' x2 j).1,
 Col.int IntKind.i64 fun (j : Nat) => (S.at' x2 j).2.1,
 Col.int IntKind.i64 fun (j : Nat) => (S.at' x2 j).2.2])]]) (10))
 (False))))))
 (False))
 (False))
 (False))
 (test (decide ((0 : Int) ≤ (0 : Int) ∧ (0 : Int) < (↑(List.length x4) : Int)))
 (test (decide (0 < List.length x4))
 (test (decide (0 + List.length x2 ≤ List.length x2 ∧ List.length x2 ≤ 1000000))
 (test (Prod.snd
 (S.safS (List.length x2)
 (S.netE (List.length x2) (fun (j : Nat) => (S.at' x2 j).1)
 (fun (j : Nat) => (S.at' x2 j).2.1)
 (fun (j : Nat) => (S.at' x2 j).2.2) de)
 (List.length x4) (fun (j : Nat) => S.at' x4 j) (1)
 (fun (j : Nat) => S.lit [(S.at' x3 (Int.toNat x1)).1] (0 : Int) j)
 (fun (j : Nat) => S.lit [(S.at' x3 (Int.toNat x1)).2.1] (0 : Int) j) fun (j : Nat) =>
 S.lit [(S.at' x3 (Int.toNat x1)).2.2] (0 : Int) j) !=
 (0 : Int))
 (Kret (PV.tf false) ([[(1, false, Blk.cols mw [Col.int IntKind.u8 tw]),
 (0, false, Blk.cols ml [Col.int IntKind.u8 tl, Col.int IntKind.u8 vl])]]) (10))
 (Kret (PV.tf false) ([[(1, false, Blk.cols mw [Col.int IntKind.u8 tw]),
 (0, false, Blk.cols ml [Col.int IntKind.u8 tl, Col.int IntKind.u8 vl])]]) (10)))
 (False))
 (False))
 (False)))
 (False))
 (False))
 (False))
 (False))
 (False))
 (Kret (PV.tf true) ([[(1, false, Blk.cols mw [Col.int IntKind.u8 tw]),
 (0, false, Blk.cols ml [Col.int IntKind.u8 tl, Col.int IntKind.u8 vl])]]) (6))
set_option maxRecDepth 100000 in
theorem t8_1 (test : Bool → Prop → Prop → Prop) (Kst : KS) (Kret : KR) (al nl ml : Nat) (tl : Nat → Int) (vl : Nat → Int) (de : Int) (aw nw mw : Nat) (tw : Nat → Int) (x0 : Int) (x1 : Int) (x2 : List (ByteArray × Int × Int)) (x3 : List (Int × Int × Int)) (x4 : List Int) : run test Try.env true (xL5 test) true 400 ⟨8, hd Try.f8 1, zipT [7, 8, 12, 14, 62, 63, 64, 81, 82, 83] [PV.ptr (PA.mk (2) (0) (0) (0)),
 PV.int IntKind.i64
 (Prod.fst
 (S.worE (List.length (S.madeL nl (fun (j : Nat) => tl (j + al)) fun (j : Nat) => vl (j + al)))
 (S.netE (List.length (S.madeL nl (fun (j : Nat) => tl (j + al)) fun (j : Nat) => vl (j + al)))
 (fun (j : Nat) =>
 (S.at' (S.madeL nl (fun (j : Nat) => tl (j + al)) fun (j : Nat) => vl (j + al)) j).1)
 (fun (j : Nat) =>
 Prod.fst
 ((S.at' (S.madeL nl (fun (j : Nat) => tl (j + al)) fun (j : Nat) => vl (j + al)) j).2))
 (fun (j : Nat) =>
 Prod.snd
 ((S.at' (S.madeL nl (fun (j : Nat) => tl (j + al)) fun (j : Nat) => vl (j + al)) j).2))
 de)
 (fun (j : Nat) =>
 Prod.fst
 ((S.at' (S.madeL nl (fun (j : Nat) => tl (j + al)) fun (j : Nat) => vl (j + al)) j).2))
 (fun (j : Nat) =>
 Prod.snd
 ((S.at' (S.madeL nl (fun (j : Nat) => tl (j + al)) fun (j : Nat) => vl (j + al)) j).2))
 de)),
 PV.unk, PV.own (5) (1) (List.length x4), PV.unk, PV.unk, PV.unk,
 PV.own (4) (3) (List.length x3), PV.int IntKind.i64 x0, PV.int IntKind.i64 x1], [[(2, (true, Blk.cells [PV.own (3) (3) (List.length x2), PV.int IntKind.i64 de])), (3, (true, Blk.cols (List.length x2)
 [Col.str fun (j : Nat) => (S.at' x2 j).1,
 Col.int IntKind.i64 fun (j : Nat) => (S.at' x2 j).2.1,
 Col.int IntKind.i64 fun (j : Nat) => (S.at' x2 j).2.2])), (4, (true, Blk.cols (List.length x3)
 [Col.int IntKind.i64 fun (j : Nat) => (S.at' x3 j).1,
 Col.int IntKind.i64 fun (j : Nat) => (S.at' x3 j).2.1,
 Col.int IntKind.i64 fun (j : Nat) => (S.at' x3 j).2.2])), (5, (true, Blk.cols (List.length x4) [Col.int IntKind.i64 fun (j : Nat) => S.at' x4 j]))], [(0, (false, .cols ml [.int .u8 tl, .int .u8 vl])), (1, (false, .cols mw [.int .u8 tw]))]], 6⟩ (proj 2 [7, 8, 12, 14, 62, 63, 64, 81, 82, 83] Kst Kret) =
  T8_1 test Kst Kret al nl ml tl vl de aw nw mw tw x0 x1 x2 x3 x4 := by kernel_rfl
set_option maxRecDepth 100000 in
theorem be8 (al nl ml : Nat) (tl : Nat → Int) (vl : Nat → Int) (de : Int) (aw nw mw : Nat) (tw : Nat → Int) (Kst : KS) (Kret : KR) (x : St8 ⊕ Rt8) (hS : HS 2 400 ((I8 al nl ml tl vl de aw nw mw tw)) Kst x) (hR : HR 2 400 ((V8 al nl ml tl vl de aw nw mw tw)) (fun r => [newL (2 + 1) ((N8 al nl ml tl vl de aw nw mw tw) r) ++ [(0, (false, .cols ml [.int .u8 tl, .int .u8 vl])), (1, (false, .cols mw [.int .u8 tw]))]]) Kret x) (h : (bif (decide ((↑nl : Int) > (8 : Int)))
 then (some (.inr (true)))
 else (bif (decide ((↑nw : Int) > (8 : Int)))
 then (some (.inr (true)))
 else (bif ((↑nw : Int) == (0 : Int))
 then (some (.inr (true)))
 else (bif (decide
 ((al + nl ≤ ml ∧ nl ≤ 1000000) ∧
 ((0 : Int) ≤ de ∧ de ≤ (255 : Int)) ∧
 S.byB (fun (j : Nat) => tl (j + al)) nl = true ∧
 S.byB (fun (j : Nat) => vl (j + al)) nl = true))
 then (bif (decide
 (0 + List.length (S.madeL nl (fun (j : Nat) => tl (j + al)) fun (j : Nat) => vl (j + al)) ≤
 List.length (S.madeL nl (fun (j : Nat) => tl (j + al)) fun (j : Nat) => vl (j + al)) ∧
 List.length (S.madeL nl (fun (j : Nat) => tl (j + al)) fun (j : Nat) => vl (j + al)) ≤ 1000000))
 then (bif (Prod.snd
 (Prod.snd
 (Prod.snd
 (Prod.snd
 (Prod.snd
 (S.worE (List.length (S.madeL nl (fun (j : Nat) => tl (j + al)) fun (j : Nat) => vl (j + al)))
 (S.netE (List.length (S.madeL nl (fun (j : Nat) => tl (j + al)) fun (j : Nat) => vl (j + al)))
 (fun (j : Nat) =>
 Prod.fst
 (S.at' (S.madeL nl (fun (j : Nat) => tl (j + al)) fun (j : Nat) => vl (j + al)) j))
 (fun (j : Nat) =>
 Prod.fst
 (Prod.snd
 (S.at' (S.madeL nl (fun (j : Nat) => tl (j + al)) fun (j : Nat) => vl (j + al)) j)))
 (fun (j : Nat) =>
 Prod.snd
 (Prod.snd
 (S.at' (S.madeL nl (fun (j : Nat) => tl (j + al)) fun (j : Nat) => vl (j + al)) j)))
 de)
 (fun (j : Nat) =>
 Prod.fst
 (Prod.snd
 (S.at' (S.madeL nl (fun (j : Nat) => tl (j + al)) fun (j : Nat) => vl (j + al)) j)))
 (fun (j : Nat) =>
 Prod.snd
 (Prod.snd
 (S.at' (S.madeL nl (fun (j : Nat) => tl (j + al)) fun (j : Nat) => vl (j + al)) j)))
 de))))) !=
 (0 : Int))
 then (some (.inr (false)))
 else (bif (Prod.fst
 (S.faiS (List.length (S.madeL nl (fun (j : Nat) => tl (j + al)) fun (j : Nat) => vl (j + al)))
 (S.netE (List.length (S.madeL nl (fun (j : Nat) => tl (j + al)) fun (j : Nat) => vl (j + al)))
 (fun (j : Nat) =>
 (S.at' (S.madeL nl (fun (j : Nat) => tl (j + al)) fun (j : Nat) => vl (j + al)) j).1)
 (fun (j : Nat) =>
 Prod.fst
 ((S.at' (S.madeL nl (fun (j : Nat) => tl (j + al)) fun (j : Nat) => vl (j + al)) j).2))
 (fun (j : Nat) =>
 Prod.snd
 ((S.at' (S.madeL nl (fun (j : Nat) => tl (j + al)) fun (j : Nat) => vl (j + al)) j).2))
 de)) !=
 (0 : Int))
 then (some (.inr (false)))
 else (some (.inl (.h0 ((0 : Int)) (S.madeL nl (fun (j : Nat) => tl (j + al)) fun (j : Nat) => vl (j + al)) (Prod.snd
 (S.faiS (List.length (S.madeL nl (fun (j : Nat) => tl (j + al)) fun (j : Nat) => vl (j + al)))
 (S.netE (List.length (S.madeL nl (fun (j : Nat) => tl (j + al)) fun (j : Nat) => vl (j + al)))
 (fun (j : Nat) =>
 (S.at' (S.madeL nl (fun (j : Nat) => tl (j + al)) fun (j : Nat) => vl (j + al)) j).1)
 (fun (j : Nat) =>
 Prod.fst
 ((S.at' (S.madeL nl (fun (j : Nat) => tl (j + al)) fun (j : Nat) => vl (j + al)) j).2))
 (fun (j : Nat) =>
 Prod.snd
 ((S.at' (S.madeL nl (fun (j : Nat) => tl (j + al)) fun (j : Nat) => vl (j + al)) j).2))
 de))) ([]))))))
 else (none))
 else (none)))) : Option (St8 ⊕ Rt8)) = some x) : Te8 cond Kst Kret al nl ml tl vl de aw nw mw tw := by
  unfold Te8
  exact cond_yes rfl (cond_yes rfl (bif_split h
   (fun c0 h => cond_yes rfl (cond_yes rfl (ret_at hR _ h (fun n => n) rfl rfl rfl (rn_bool_tf rfl) rfl (entl_bor (use_lo rfl) rfl rfl (entl_bor (use_lo rfl) rfl rfl entl_nil)))))
   (fun c0 h => bif_split h
   (fun c1 h => cond_yes rfl (cond_yes rfl (ret_at hR _ h (fun n => n) rfl rfl rfl (rn_bool_tf rfl) rfl (entl_bor (use_lo rfl) rfl rfl (entl_bor (use_lo rfl) rfl rfl entl_nil)))))
   (fun c1 h => bif_split h
   (fun c2 h => cond_yes rfl (cond_yes rfl (ret_at hR _ h (fun n => n) rfl rfl rfl (rn_bool_tf rfl) rfl (entl_bor (use_lo rfl) rfl rfl (entl_bor (use_lo rfl) rfl rfl entl_nil)))))
   (fun c2 h => bif_split h
   (fun c3 h => bif_split h
   (fun c4 h => cond_yes c4 (bif_split h
   (fun c5 h => ret_at hR _ h (fun n => n) rfl rfl rfl (rn_bool_tf rfl) rfl (entl_bor (use_lo rfl) rfl rfl (entl_bor (use_lo rfl) rfl rfl entl_nil)))
   (fun c5 h => bif_split h
   (fun c6 h => ret_at hR _ h (fun n => n) rfl rfl rfl (rn_bool_tf rfl) rfl (entl_bor (use_lo rfl) rfl rfl (entl_bor (use_lo rfl) rfl rfl entl_nil)))
   (fun c6 h => stop_at hS _ h (fun n => bif Nat.beq n 2 then 5 else bif Nat.beq n 3 then 4 else bif Nat.beq n 4 then 9 else bif Nat.beq n 5 then 399 else n) rfl rfl rfl ⟨(rn_ptr (use_own rfl) rfl rfl), ⟨(rn_int rfl), ⟨(rn_own (use_own rfl) rfl rfl), ⟨(rn_own_nils rfl), ⟨(rn_loose (use_lo rfl) rfl rfl rfl), ⟨(rn_int rfl), ⟨(rn_int rfl), ⟨(rn_unk _), ⟨(rn_unk _), ⟨(rn_unk _), trivial⟩⟩⟩⟩⟩⟩⟩⟩⟩⟩ rfl (entl_b (use_own rfl) rfl (by simp) (rb_cells ⟨(rn_own (use_own rfl) rfl rfl), (rn_int rfl), trivial⟩) (entl_new (use_own rfl) rfl (Nat.le_of_eq rfl) (rcs_str (fun _ _ => rfl) (rcs_int (fun _ _ => rfl) (rcs_int (fun _ _ => rfl) rcs_nil))) (entl_new (use_own rfl) rfl (Nat.le_of_eq rfl) (rcs_int (fun _ _ => rfl) (rcs_int (fun _ _ => rfl) (rcs_int (fun _ _ => rfl) rcs_nil))) (entl_fresh (use_own rfl) (fresh_ok rfl) (entl_bor (use_lo rfl) rfl rfl (entl_bor (use_lo rfl) rfl rfl entl_nil))))))))))
   (fun c4 h => no_some h))
   (fun c3 h => no_some h))))))
set_option maxRecDepth 100000 in
theorem b8_0 (al nl ml : Nat) (tl : Nat → Int) (vl : Nat → Int) (de : Int) (aw nw mw : Nat) (tw : Nat → Int) (Kst : KS) (Kret : KR) (x : St8 ⊕ Rt8) (hS : HS 2 400 ((I8 al nl ml tl vl de aw nw mw tw)) Kst x) (hR : HR 2 400 ((V8 al nl ml tl vl de aw nw mw tw)) (fun r => [newL (2 + 1) ((N8 al nl ml tl vl de aw nw mw tw) r) ++ [(0, (false, .cols ml [.int .u8 tl, .int .u8 vl])), (1, (false, .cols mw [.int .u8 tw]))]]) Kret x) (x0 : Int) (x1 : List (ByteArray × Int × Int)) (x2 : List (Int × Int × Int)) (x3 : List Int) (h : (bif (decide (x0 < (↑nw : Int)))
 then (bif (decide ((0 : Int) ≤ x0 ∧ x0 < (↑nw : Int)))
 then (bif (decide (Int.toNat x0 + aw < mw))
 then (bif (lim IntKind.i64 (tw (Int.toNat x0 + aw)))
 then (bif (decide ((↑(List.length x1) : Int) = (0 : Int)))
 then (none)
 else (bif (decide (List.length x3 + 1 ≤ 1000000))
 then (bif (decide (List.length x3 ≤ List.length x3))
 then (bif (lim IntKind.i64 (x0 + (1 : Int)))
 then (some (.inl (.h0 (x0 + (1 : Int)) (x1) (x2) (S.snoc x3 (Int.tmod (tw (Int.toNat x0 + aw)) (↑(List.length x1) : Int))))))
 else (none))
 else (none))
 else (none)))
 else (none))
 else (none))
 else (none))
 else (bif (decide (1 + List.length x2 ≤ 1000000))
 then (bif (decide (0 + List.length x2 ≤ List.length x2))
 then (some (.inl (.h1 ((↑(1 + List.length x2) : Int)) ((0 : Int)) (x1) (S.mkl (1 + List.length x2) fun (j : Nat) =>
 (bif Nat.blt j (1) then (0 : Int) else (S.at' x2 (j - 1)).1,
 bif Nat.blt j (1) then (0 : Int) else (S.at' x2 (j - 1)).2.1,
 bif Nat.blt j (1) then (0 : Int) else (S.at' x2 (j - 1)).2.2)) (x3))))
 else (none))
 else (none)) : Option (St8 ⊕ Rt8)) = some x) : T8_0 cond Kst Kret al nl ml tl vl de aw nw mw tw x0 x1 x2 x3 := by
  unfold T8_0
  exact bif_split h
   (fun c0 h => bif_split h
   (fun c1 h => bif_split h
   (fun c2 h => bif_split h
   (fun c3 h => bif_split h
   (fun c4 h => no_some h)
   (fun c4 h => bif_split h
   (fun c5 h => bif_split h
   (fun c6 h => cond_yes rfl (bif_split h
   (fun c7 h => stop_at hS _ h (fun n => bif Nat.beq n 2 then 2 else bif Nat.beq n 3 then 3 else bif Nat.beq n 4 then 4 else bif Nat.beq n 5 then 7 else n) rfl rfl rfl ⟨(rn_ptr (use_own rfl) rfl rfl), ⟨(rn_int rfl), ⟨(rn_own (use_own rfl) rfl rfl), ⟨(rn_own (use_own rfl) rfl (snoc_len' rfl)), ⟨(rn_loose (use_lo rfl) rfl rfl rfl), ⟨(rn_int rfl), ⟨(rn_int rfl), ⟨(rn_unk _), ⟨(rn_unk _), ⟨(rn_unk _), trivial⟩⟩⟩⟩⟩⟩⟩⟩⟩⟩ rfl (entl_b (use_own rfl) rfl (by simp) (rb_cells ⟨(rn_own (use_own rfl) rfl rfl), (rn_int rfl), trivial⟩) (entl_new (use_own rfl) rfl (Nat.le_of_eq rfl) (rcs_str (fun _ _ => rfl) (rcs_int (fun _ _ => rfl) (rcs_int (fun _ _ => rfl) rcs_nil))) (entl_new (use_own rfl) rfl (Nat.le_of_eq rfl) (rcs_int (fun _ _ => rfl) (rcs_int (fun _ _ => rfl) (rcs_int (fun _ _ => rfl) rcs_nil))) (entl_new (use_own rfl) rfl (Nat.le_of_eq (snoc_len' rfl)) (rcs_int (col_snoc' (fun (t : Int) => t) rfl (fun _ _ => rfl)) rcs_nil) (entl_bor (use_lo rfl) rfl rfl (entl_bor (use_lo rfl) rfl rfl entl_nil)))))))
   (fun c7 h => no_some h)))
   (fun c6 h => no_some h))
   (fun c5 h => no_some h)))
   (fun c3 h => no_some h))
   (fun c2 h => no_some h))
   (fun c1 h => no_some h))
   (fun c0 h => bif_split h
   (fun c1 h => cond_yes rfl (bif_split h
   (fun c2 h => stop_at hS _ h (fun n => bif Nat.beq n 2 then 2 else bif Nat.beq n 3 then 3 else bif Nat.beq n 4 then 7 else bif Nat.beq n 5 then 5 else n) rfl rfl rfl ⟨(rn_ptr (use_own rfl) rfl rfl), ⟨(rn_int rfl), ⟨(rn_unk _), ⟨(rn_own (use_own rfl) rfl rfl), ⟨(rn_unk _), ⟨(rn_unk _), ⟨(rn_unk _), ⟨(rn_own (use_own rfl) rfl mkl_len), ⟨(rn_int rfl), ⟨(rn_int rfl), trivial⟩⟩⟩⟩⟩⟩⟩⟩⟩⟩ rfl (entl_b (use_own rfl) rfl (by simp) (rb_cells ⟨(rn_own (use_own rfl) rfl rfl), (rn_int rfl), trivial⟩) (entl_new (use_own rfl) rfl (Nat.le_of_eq rfl) (rcs_str (fun _ _ => rfl) (rcs_int (fun _ _ => rfl) (rcs_int (fun _ _ => rfl) rcs_nil))) (entl_new (use_own rfl) rfl (Nat.le_of_eq mkl_len) (rcs_int (fun _ hj => col_mkl (fun (t : Int × Int × Int) => t.1) hj) (rcs_int (fun _ hj => col_mkl (fun (t : Int × Int × Int) => t.2.1) hj) (rcs_int (fun _ hj => col_mkl (fun (t : Int × Int × Int) => t.2.2) hj) rcs_nil))) (entl_new (use_own rfl) rfl (Nat.le_of_eq rfl) (rcs_int (fun _ _ => rfl) rcs_nil) (entl_bor (use_lo rfl) rfl rfl (entl_bor (use_lo rfl) rfl rfl entl_nil)))))))
   (fun c2 h => no_some h)))
   (fun c1 h => no_some h))
set_option maxRecDepth 100000 in
theorem b8_1 (al nl ml : Nat) (tl : Nat → Int) (vl : Nat → Int) (de : Int) (aw nw mw : Nat) (tw : Nat → Int) (Kst : KS) (Kret : KR) (x : St8 ⊕ Rt8) (hS : HS 2 400 ((I8 al nl ml tl vl de aw nw mw tw)) Kst x) (hR : HR 2 400 ((V8 al nl ml tl vl de aw nw mw tw)) (fun r => [newL (2 + 1) ((N8 al nl ml tl vl de aw nw mw tw) r) ++ [(0, (false, .cols ml [.int .u8 tl, .int .u8 vl])), (1, (false, .cols mw [.int .u8 tw]))]]) Kret x) (x0 : Int) (x1 : Int) (x2 : List (ByteArray × Int × Int)) (x3 : List (Int × Int × Int)) (x4 : List Int) (h : (bif (decide (x1 < x0))
 then (bif (decide ((0 : Int) ≤ x1 ∧ x1 < (↑(List.length x3) : Int)))
 then (bif (decide (Int.toNat x1 < List.length x3))
 then (bif (decide
 (0 + List.length x2 ≤ List.length x2 ∧
 List.length x2 ≤ 1000000 ∧
 (0 + List.length x4 ≤ List.length x4 ∧ List.length x4 ≤ 1000000) ∧
 1 ≤ 1 ∧ 1 ≤ 1000000))
 then (bif (Prod.fst
 (S.safS (List.length x2)
 (S.netE (List.length x2) (fun (j : Nat) => (S.at' x2 j).1)
 (fun (j : Nat) => (S.at' x2 j).2.1)
 (fun (j : Nat) => (S.at' x2 j).2.2) de)
 (List.length x4) (fun (j : Nat) => S.at' x4 j) (1)
 (fun (j : Nat) => S.lit [(S.at' x3 (Int.toNat x1)).1] (0 : Int) j)
 (fun (j : Nat) => S.lit [(S.at' x3 (Int.toNat x1)).2.1] (0 : Int) j) fun (j : Nat) =>
 S.lit [(S.at' x3 (Int.toNat x1)).2.2] (0 : Int) j))
 then (bif (decide ((0 : Int) ≤ (0 : Int) ∧ (0 : Int) < (↑(List.length x4) : Int)))
 then (bif (decide (0 < List.length x4))
 then (bif (decide (0 + List.length x2 ≤ List.length x2 ∧ List.length x2 ≤ 1000000))
 then (bif (Prod.snd
 (S.safS (List.length x2)
 (S.netE (List.length x2) (fun (j : Nat) => (S.at' x2 j).1)
 (fun (j : Nat) => (S.at' x2 j).2.1)
 (fun (j : Nat) => (S.at' x2 j).2.2) de)
 (List.length x4) (fun (j : Nat) => S.at' x4 j) (1)
 (fun (j : Nat) => S.lit [(S.at' x3 (Int.toNat x1)).1] (0 : Int) j)
 (fun (j : Nat) => S.lit [(S.at' x3 (Int.toNat x1)).2.1] (0 : Int) j) fun (j : Nat) =>
 S.lit [(S.at' x3 (Int.toNat x1)).2.2] (0 : Int) j) !=
 (0 : Int))
 then (some (.inr (false)))
 else (bif (Prod.snd
 (S.latS (List.length x2) (fun (j : Nat) => (S.at' x2 j).2.1)
 (fun (j : Nat) => (S.at' x2 j).2.2) de
 (S.netE (List.length x2) (fun (j : Nat) => (S.at' x2 j).1)
 (fun (j : Nat) => (S.at' x2 j).2.1)
 (fun (j : Nat) => (S.at' x2 j).2.2) de)
 (S.at' x4 (0)) ((S.at' x3 (Int.toNat x1)).1)
 ((S.at' x3 (Int.toNat x1)).2.1) ((S.at' x3 (Int.toNat x1)).2.2)) !=
 (0 : Int))
 then (some (.inr (false)))
 else (bif (decide
 (Prod.fst
 (S.latS (List.length x2) (fun (j : Nat) => (S.at' x2 j).2.1)
 (fun (j : Nat) => (S.at' x2 j).2.2) de
 (S.netE (List.length x2) (fun (j : Nat) => (S.at' x2 j).1)
 (fun (j : Nat) => (S.at' x2 j).2.1)
 (fun (j : Nat) => (S.at' x2 j).2.2) de)
 (S.at' x4 (0)) ((S.at' x3 (Int.toNat x1)).1)
 ((S.at' x3 (Int.toNat x1)).2.1) ((S.at' x3 (Int.toNat x1)).2.2)) <
 (0 : Int)))
 then (some (.inr (false)))
 else (bif (decide
 (Prod.fst
 (S.latS (List.length x2) (fun (j : Nat) => (S.at' x2 j).2.1)
 (fun (j : Nat) => (S.at' x2 j).2.2) de
 (S.netE (List.length x2) (fun (j : Nat) => (S.at' x2 j).1)
 (fun (j : Nat) => (S.at' x2 j).2.1)
 (fun (j : Nat) => (S.at' x2 j).2.2) de)
 (S.at' x4 (0)) ((S.at' x3 (Int.toNat x1)).1)
 ((S.at' x3 (Int.toNat x1)).2.1) ((S.at' x3 (Int.toNat x1)).2.2)) >
 Prod.fst
 (S.worE (List.length (S.madeL nl (fun (j : Nat) => tl (j + al)) fun (j : Nat) => vl (j + al)))
 (S.netE (List.length (S.madeL nl (fun (j : Nat) => tl (j + al)) fun (j : Nat) => vl (j + al)))
 (fun (j : Nat) =>
 (S.at' (S.madeL nl (fun (j : Nat) => tl (j + al)) fun (j : Nat) => vl (j + al)) j).1)
 (fun (j : Nat) =>
 Prod.fst
 ((S.at' (S.madeL nl (fun (j : Nat) => tl (j + al)) fun (j : Nat) => vl (j + al)) j).2))
 (fun (j : Nat) =>
 Prod.snd
 ((S.at' (S.madeL nl (fun (j : Nat) => tl (j + al)) fun (j : Nat) => vl (j + al)) j).2))
 de)
 (fun (j : Nat) =>
 Prod.fst
 ((S.at' (S.madeL nl (fun (j : Nat) => tl (j + al)) fun (j : Nat) => vl (j + al)) j).2))
 (fun (j : Nat) =>
 Prod.snd
 ((S.at' (S.madeL nl (fun (j : Nat) => tl (j + al)) fun (j : Nat) => vl (j + al)) j).2))
 de)))
 then (some (.inr (false)))
 else (bif (lim IntKind.i64 (x1 + (1 : Int)))
 then (some (.inl (.h1 (x0) (x1 + (1 : Int)) (x2) (x3) (x4))))
 else (none))))))
 else (none))
 else (none))
 else (none))
 else (bif (decide ((0 : Int) ≤ (0 : Int) ∧ (0 : Int) < (↑(List.length x4) : Int)))
 then (bif (decide (0 < List.length x4))
 then (bif (decide (0 + List.length x2 ≤ List.length x2 ∧ List.length x2 ≤ 1000000))
 then (bif (Prod.snd
 (S.safS (List.length x2)
 (S.netE (List.length x2) (fun (j : Nat) => (S.at' x2 j).1)
 (fun (j : Nat) => (S.at' x2 j).2.1)
 (fun (j : Nat) => (S.at' x2 j).2.2) de)
 (List.length x4) (fun (j : Nat) => S.at' x4 j) (1)
 (fun (j : Nat) => S.lit [(S.at' x3 (Int.toNat x1)).1] (0 : Int) j)
 (fun (j : Nat) => S.lit [(S.at' x3 (Int.toNat x1)).2.1] (0 : Int) j) fun (j : Nat) =>
 S.lit [(S.at' x3 (Int.toNat x1)).2.2] (0 : Int) j) !=
 (0 : Int))
 then (some (.inr (false)))
 else (some (.inr (false))))
 else (none))
 else (none))
 else (none)))
 else (none))
 else (none))
 else (none))
 else (some (.inr (true))) : Option (St8 ⊕ Rt8)) = some x) : T8_1 cond Kst Kret al nl ml tl vl de aw nw mw tw x0 x1 x2 x3 x4 := by
  unfold T8_1
  exact bif_split h
   (fun c0 h => bif_split h
   (fun c1 h => bif_split h
   (fun c2 h => cond_yes c2 (cond_yes c2 (bif_split h
   (fun c3 h => bif_split h
   (fun c4 h => bif_split h
   (fun c5 h => bif_split h
   (fun c6 h => bif_split h
   (fun c7 h => bif_split h
   (fun c8 h => ret_at hR _ h (fun n => n) rfl rfl rfl (rn_bool_tf rfl) rfl (entl_bor (use_lo rfl) rfl rfl (entl_bor (use_lo rfl) rfl rfl entl_nil)))
   (fun c8 h => bif_split h
   (fun c9 h => ret_at hR _ h (fun n => n) rfl rfl rfl (rn_bool_tf rfl) rfl (entl_bor (use_lo rfl) rfl rfl (entl_bor (use_lo rfl) rfl rfl entl_nil)))
   (fun c9 h => bif_split h
   (fun c10 h => ret_at hR _ h (fun n => n) rfl rfl rfl (rn_bool_tf rfl) rfl (entl_bor (use_lo rfl) rfl rfl (entl_bor (use_lo rfl) rfl rfl entl_nil)))
   (fun c10 h => bif_split h
   (fun c11 h => ret_at hR _ h (fun n => n) rfl rfl rfl (rn_bool_tf rfl) rfl (entl_bor (use_lo rfl) rfl rfl (entl_bor (use_lo rfl) rfl rfl entl_nil)))
   (fun c11 h => bif_split h
   (fun c12 h => stop_at hS _ h (fun n => bif Nat.beq n 2 then 2 else bif Nat.beq n 3 then 3 else bif Nat.beq n 4 then 4 else bif Nat.beq n 5 then 5 else n) rfl rfl rfl ⟨(rn_ptr (use_own rfl) rfl rfl), ⟨(rn_int rfl), ⟨(rn_unk _), ⟨(rn_own (use_own rfl) rfl rfl), ⟨(rn_unk _), ⟨(rn_unk _), ⟨(rn_unk _), ⟨(rn_own (use_own rfl) rfl rfl), ⟨(rn_int rfl), ⟨(rn_int rfl), trivial⟩⟩⟩⟩⟩⟩⟩⟩⟩⟩ rfl (entl_b (use_own rfl) rfl (by simp) (rb_cells ⟨(rn_own (use_own rfl) rfl rfl), (rn_int rfl), trivial⟩) (entl_new (use_own rfl) rfl (Nat.le_of_eq rfl) (rcs_str (fun _ _ => rfl) (rcs_int (fun _ _ => rfl) (rcs_int (fun _ _ => rfl) rcs_nil))) (entl_new (use_own rfl) rfl (Nat.le_of_eq rfl) (rcs_int (fun _ _ => rfl) (rcs_int (fun _ _ => rfl) (rcs_int (fun _ _ => rfl) rcs_nil))) (entl_new (use_own rfl) rfl (Nat.le_of_eq rfl) (rcs_int (fun _ _ => rfl) rcs_nil) (entl_bor (use_lo rfl) rfl rfl (entl_bor (use_lo rfl) rfl rfl entl_nil)))))))
   (fun c12 h => no_some h))))))
   (fun c7 h => no_some h))
   (fun c6 h => no_some h))
   (fun c5 h => no_some h))
   (fun c4 h => bif_split h
   (fun c5 h => bif_split h
   (fun c6 h => bif_split h
   (fun c7 h => bif_split h
   (fun c8 h => ret_at hR _ h (fun n => n) rfl rfl rfl (rn_bool_tf rfl) rfl (entl_bor (use_lo rfl) rfl rfl (entl_bor (use_lo rfl) rfl rfl entl_nil)))
   (fun c8 h => ret_at hR _ h (fun n => n) rfl rfl rfl (rn_bool_tf rfl) rfl (entl_bor (use_lo rfl) rfl rfl (entl_bor (use_lo rfl) rfl rfl entl_nil))))
   (fun c7 h => no_some h))
   (fun c6 h => no_some h))
   (fun c5 h => no_some h)))
   (fun c3 h => no_some h))))
   (fun c2 h => no_some h))
   (fun c1 h => no_some h))
   (fun c0 h => ret_at hR _ h (fun n => n) rfl rfl rfl (rn_bool_tf rfl) rfl (entl_bor (use_lo rfl) rfl rfl (entl_bor (use_lo rfl) rfl rfl entl_nil)))
theorem a8 (al nl ml : Nat) (tl : Nat → Int) (vl : Nat → Int) (de : Int) (aw nw mw : Nat) (tw : Nat → Int) {r : Rt8} (h : Goes ((q8 al nl ml tl vl de aw nw mw tw)) ((p8 al nl ml tl vl de aw nw mw tw)) r) : CallR Try.prog 8 [.loose ⟨0, 2, al, 0⟩ nl, .int .u8 de, .loose ⟨1, 1, aw, 0⟩ nw] [[(0, (false, .cols ml [.int .u8 tl, .int .u8 vl])), (1, (false, .cols mw [.int .u8 tw]))]] 2 ((V8 al nl ml tl vl de aw nw mw tw) r) ((fun r => [newL (2 + 1) ((N8 al nl ml tl vl de aw nw mw tw) r) ++ [(0, (false, .cols ml [.int .u8 tl, .int .u8 vl])), (1, (false, .cols mw [.int .u8 tw]))]]) r) 400 ∧ ∃ F, Try.prog.funcs[8]? = some F ∧ F.body.isSome = true ∧ (F.name == "runtime.NumGoroutine") = false := by
  refine dec_calls (f := 8) (lo := 2) (hi := 400) (H := [[(0, (false, .cols ml [.int .u8 tl, .int .u8 vl])), (1, (false, .cols mw [.int .u8 tw]))]]) (args := [.loose ⟨0, 2, al, 0⟩ nl, .int .u8 de, .loose ⟨1, 1, aw, 0⟩ nw]) Try.envOk Try.mixed xL5_ok ((I8 al nl ml tl vl de aw nw mw tw)) ((V8 al nl ml tl vl de aw nw mw tw)) (fun r => [newL (2 + 1) ((N8 al nl ml tl vl de aw nw mw tw) r) ++ [(0, (false, .cols ml [.int .u8 tl, .int .u8 vl])), (1, (false, .cols mw [.int .u8 tw]))]]) (fn := mkFn Try.f8) (ts := [7, 8, 12, 14, 62, 63, 64, 81, 82, 83]) (n := 400) rfl (by decide) (by simp) (names_of rfl) ?_ ?_ ?_ h
  · intro s; cases s <;> exact ⟨hd_ok _ _, by simp [I8], names_of rfl, Nat.le_of_ble_eq_true rfl⟩
  · intro Kst Kret x hS hR h
    exact Holds.eq (te8 cond Kst Kret al nl ml tl vl de aw nw mw tw) (be8 al nl ml tl vl de aw nw mw tw Kst Kret x hS hR h)
  · intro Kst Kret x hS hR s h
    cases s with
    | h0 x0 x1 x2 x3 => exact Holds.eq (t8_0 cond Kst Kret al nl ml tl vl de aw nw mw tw x0 x1 x2 x3) (b8_0 al nl ml tl vl de aw nw mw tw Kst Kret x hS hR x0 x1 x2 x3 h)
    | h1 x0 x1 x2 x3 x4 => exact Holds.eq (t8_1 cond Kst Kret al nl ml tl vl de aw nw mw tw x0 x1 x2 x3 x4) (b8_1 al nl ml tl vl de aw nw mw tw Kst Kret x hS hR x0 x1 x2 x3 x4 h)
noncomputable def k8 : Con := ⟨8, [.one (.list [.int .u8, .int .u8]), .one (.plain (.int .u8)), .one (.list [.int .u8])], fun (x : (Nat × Nat × Nat × (Nat → Int) × (Nat → Int) × Unit) × Int × (Nat × Nat × Nat × (Nat → Int) × Unit) × Unit) => (fun (al nl ml : Nat) (tl : Nat → Int) (vl : Nat → Int) (de : Int) (aw nw mw : Nat) (tw : Nat → Int) => decide ((al + nl ≤ ml ∧ aw + nw ≤ mw) ∧ (0 ≤ de ∧ de ≤ 255) ∧ S.byB (fun j => tl (j + al)) nl = true ∧ S.byB (fun j => vl (j + al)) nl = true ∧ S.byB (fun j => tw (j + aw)) nw = true)) x.1.1 x.1.2.1 x.1.2.2.1 x.1.2.2.2.1 x.1.2.2.2.2.1 x.2.1 x.2.2.1.1 x.2.2.1.2.1 x.2.2.1.2.2.1 x.2.2.1.2.2.2.1, fun (x : (Nat × Nat × Nat × (Nat → Int) × (Nat → Int) × Unit) × Int × (Nat × Nat × Nat × (Nat → Int) × Unit) × Unit) => (fun (al nl ml : Nat) (tl : Nat → Int) (vl : Nat → Int) (de : Int) (aw nw mw : Nat) (tw : Nat → Int) => (V8 al nl ml tl vl de aw nw mw tw) (true)) x.1.1 x.1.2.1 x.1.2.2.1 x.1.2.2.2.1 x.1.2.2.2.2.1 x.2.1 x.2.2.1.1 x.2.2.1.2.1 x.2.2.1.2.2.1 x.2.2.1.2.2.2.1, fun (x : (Nat × Nat × Nat × (Nat → Int) × (Nat → Int) × Unit) × Int × (Nat × Nat × Nat × (Nat → Int) × Unit) × Unit) => (fun (al nl ml : Nat) (tl : Nat → Int) (vl : Nat → Int) (de : Int) (aw nw mw : Nat) (tw : Nat → Int) => (N8 al nl ml tl vl de aw nw mw tw) (true)) x.1.1 x.1.2.1 x.1.2.2.1 x.1.2.2.2.1 x.1.2.2.2.2.1 x.2.1 x.2.2.1.1 x.2.2.1.2.1 x.2.2.1.2.2.1 x.2.2.1.2.2.2.1, fun _ _ => .dead⟩
theorem s8b (al nl ml : Nat) (tl : Nat → Int) (vl : Nat → Int) (de : Int) (aw nw mw : Nat) (tw : Nat → Int) (M : List (ByteArray × Int × Int)) (hM : S.madeL nl (fun j => tl (j + al)) (fun j => vl (j + al)) = M) (hv : S.netL M de = 0) (LW : List Int) (hw : 0 < LW.length ∧ LW.length ≤ 8) (hr : ∀ j, j < LW.length → 0 ≤ S.at' LW j ∧ S.at' LW j < (M.length : Int)) (AF : List (Int × Int × Int)) (hA : Holds (AF = S.allF M.length)) : ∀ (k i : Nat), i + k = AF.length → Comes (q8 al nl ml tl vl de aw nw mw tw) (.h1 ((AF.length : Nat) : Int) (i : Int) M AF LW) true := by
  obtain ⟨v1, v2, v3⟩ := net_ok hv
  have hl : AF.length = 5 * M.length + 3 := by rw [hA.get]; show (S.failL M.length).length + 1 = _; rw [fail_len]
  intro k
  induction k with
  | zero =>
    intro i hi
    apply Comes.of
    show Goes _ _ _
    (first | rw [q8] | unfold q8)
    repeat' first
      | with_reducible refine goes_if (fun h => ?_) (fun h => ?_) <;> (try simp only [lim64, imp_false, decide_eq_true_eq, decide_eq_false_iff_not, Int.toNat_natCast, toNat_pred, toNat_succ, Option.getD_some, Option.getD_none, Bool.not_eq_true', Bool.not_eq_false', Bool.and_eq_true, Bool.or_eq_true, Bool.and_eq_false_iff, Bool.or_eq_false_iff, bne_iff_ne, beq_iff_eq, bne_eq_false_iff_eq, beq_eq_false_iff_ne, ne_eq, not_and, Int.not_le, Int.not_lt, ge_iff_le, gt_iff_lt, Nat.not_lt, Nat.not_le, Bool.not_eq_true, Bool.not_eq_false, Bool.true_eq_false, Bool.false_eq_true, not_false_eq_true, not_true_eq_false] at h)
      | exact goes_none.mpr (by omega)
    all_goals first | (exfalso; omega) | exact goes_inr.mpr rfl
  | succ k ih =>
    intro i hi
    have ih := ih (i + 1) (by omega)
    have h0 := hr 0 (by omega)
    have hok := all_memF (n := M.length) (f := S.at' AF i) (by rw [hA.get]; exact at_mem (by rw [← hA.get]; omega))
    have hall : S.all (fun j => decide (0 ≤ S.at' LW j ∧ S.at' LW j < (M.length : Int))) LW.length = true := all_iff.mpr fun j hj => decide_eq_true (hr j hj)
    have hs : S.safS M.length 0 LW.length (fun j => S.at' LW j) 1 (fun j => S.lit [(S.at' AF i).1] 0 j) (fun j => S.lit [(S.at' AF i).2.1] 0 j) (fun j => S.lit [(S.at' AF i).2.2] 0 j) = (true, 0) := by
      unfold S.safS
      rw [if_pos rfl, if_pos hall, if_neg (by omega), if_pos (all_iff.mpr fun j hj => by
        obtain rfl : j = 0 := by omega
        exact decide_eq_true hok), saf_one (s := (S.at' LW 0).toNat) (by omega) ?_]
      show (!S.any (fun j => decide (S.at' LW j = (((S.at' LW 0).toNat : Nat) : Int))) LW.length) = false
      rw [any_iff.mpr ⟨0, hw.1, decide_eq_true (by omega)⟩]; rfl
    have hlt : S.latS M.length (fun j => (S.at' M j).2.1) (fun j => (S.at' M j).2.2) de 0 (S.at' LW 0) (S.at' AF i).1 (S.at' AF i).2.1 (S.at' AF i).2.2 = (S.latI M.length (fun j => (S.at' M j).2.1) (fun j => (S.at' M j).2.2) de (S.at' LW 0) (S.at' AF i).1 (S.at' AF i).2.1 (S.at' AF i).2.2, 0) := lat_of h0 hok
    have hw1 : S.worE M.length 0 (fun j => (S.at' M j).2.1) (fun j => (S.at' M j).2.2) de = ((S.worL M de).1, (S.worL M de).2.1, (S.worL M de).2.2.1, (S.worL M de).2.2.2.1, (S.worL M de).2.2.2.2, 0) := rfl
    have hge : S.latI M.length (fun j => (S.at' M j).2.1) (fun j => (S.at' M j).2.2) de (S.at' LW 0) (S.at' AF i).1 (S.at' AF i).2.1 (S.at' AF i).2.2 ≤ (S.worL M de).1 := by
      have := wor_ge (lat := S.latI M.length (fun j => (S.at' M j).2.1) (fun j => (S.at' M j).2.2) de) (L := S.allF M.length) (n := M.length) (st := (S.at' LW 0).toNat) (j := i) (by omega) (by rw [← hA.get]; omega)
      rw [show (((S.at' LW 0).toNat : Nat) : Int) = S.at' LW 0 by omega, ← hA.get] at this
      rw [show S.worL M de = S.worS (S.latI M.length (fun j => (S.at' M j).2.1) (fun j => (S.at' M j).2.2) de) AF M.length by rw [hA.get]; rfl]
      exact this
    have hnn : 0 ≤ S.latI M.length (fun j => (S.at' M j).2.1) (fun j => (S.at' M j).2.2) de (S.at' LW 0) (S.at' AF i).1 (S.at' AF i).2.1 (S.at' AF i).2.2 := lat_nn hv
    have hw0 : 0 < LW.length := hw.1
    have hw8 : LW.length ≤ 8 := hw.2
    have hk1 : (1 : Nat) ≤ 1000000 := by decide
    clear hok hall hr h0
    apply Comes.of
    show Goes _ _ _
    rw [q8]
    simp only [hM, net_nil, hv, Int.toNat_natCast, hs, hlt, hw1]
    generalize S.latI M.length (fun j => (S.at' M j).2.1) (fun j => (S.at' M j).2.2) de (S.at' LW 0) (S.at' AF i).1 (S.at' AF i).2.1 (S.at' AF i).2.2 = la at *
    generalize (S.worL M de).1 = wo at *
    show Goes _ _ _
    repeat' first
      | with_reducible refine goes_if (fun h => ?_) (fun h => ?_) <;> (try simp only [lim64, imp_false, decide_eq_true_eq, decide_eq_false_iff_not, Int.toNat_natCast, toNat_pred, toNat_succ, Option.getD_some, Option.getD_none, Bool.not_eq_true', Bool.not_eq_false', Bool.and_eq_true, Bool.or_eq_true, Bool.and_eq_false_iff, Bool.or_eq_false_iff, bne_iff_ne, beq_iff_eq, bne_eq_false_iff_eq, beq_eq_false_iff_ne, ne_eq, not_and, Int.not_le, Int.not_lt, ge_iff_le, gt_iff_lt, Nat.not_lt, Nat.not_le, Bool.not_eq_true, Bool.not_eq_false, Bool.true_eq_false, Bool.false_eq_true, not_false_eq_true, not_true_eq_false] at h)
      | exact goes_none.mpr (by omega)
    all_goals first | (exfalso; omega) | exact ih | (exfalso; simp_all; done) | (exfalso; simp at *; done)
theorem s8a (al nl ml : Nat) (tl : Nat → Int) (vl : Nat → Int) (de : Int) (aw nw mw : Nat) (tw : Nat → Int) (M : List (ByteArray × Int × Int)) (hM : S.madeL nl (fun j => tl (j + al)) (fun j => vl (j + al)) = M) (hv : S.netL M de = 0) (hb : S.byB (fun j => tw (j + aw)) nw = true) (hp : aw + nw ≤ mw) (hw : 0 < nw ∧ nw ≤ 8) : ∀ (k i : Nat) (LW : List Int), i + k = nw → LW.length = i → (∀ j, j < LW.length → 0 ≤ S.at' LW j ∧ S.at' LW j < (M.length : Int)) → Comes (q8 al nl ml tl vl de aw nw mw tw) (.h0 (i : Int) M (S.failL M.length) LW) true := by
  obtain ⟨v1, v2, v3⟩ := net_ok hv
  have hf := fail_len (n := M.length)
  intro k
  induction k with
  | zero =>
    intro i LW hi hl hr
    have hm := s8b al nl ml tl vl de aw nw mw tw M hM hv LW (by omega) hr (S.allF M.length) ⟨rfl⟩ (S.allF M.length).length 0 (Nat.zero_add _)
    have e1 : (S.allF M.length).length = 1 + (S.failL M.length).length := by show (S.failL M.length).length + 1 = _; omega
    rw [show ((((S.allF M.length).length : Nat)) : Int) = ((1 + (S.failL M.length).length : Nat) : Int) by rw [e1]] at hm
    apply Comes.of
    show Goes _ _ _
    (first | rw [q8] | unfold q8)
    try simp only [all_mkl]
    try show Goes _ _ _
    repeat' first
      | with_reducible refine goes_if (fun h => ?_) (fun h => ?_) <;> (try simp only [lim64, imp_false, decide_eq_true_eq, decide_eq_false_iff_not, Int.toNat_natCast, toNat_pred, toNat_succ, Option.getD_some, Option.getD_none, Bool.not_eq_true', Bool.not_eq_false', Bool.and_eq_true, Bool.or_eq_true, Bool.and_eq_false_iff, Bool.or_eq_false_iff, bne_iff_ne, beq_iff_eq, bne_eq_false_iff_eq, beq_eq_false_iff_ne, ne_eq, not_and, Int.not_le, Int.not_lt, ge_iff_le, gt_iff_lt, Nat.not_lt, Nat.not_le, Bool.not_eq_true, Bool.not_eq_false, Bool.true_eq_false, Bool.false_eq_true, not_false_eq_true, not_true_eq_false] at h)
      | exact goes_none.mpr (by omega)
    all_goals first | (exfalso; omega) | exact hm
  | succ k ih =>
    intro i LW hi hl hr
    have hb1 := of_decide_eq_true (all_iff.mp hb i (by omega))
    try dsimp only at hb1
    have hmod : 0 ≤ Int.tmod (tw (i + aw)) (M.length : Int) ∧ Int.tmod (tw (i + aw)) (M.length : Int) < (M.length : Int) := ⟨Int.tmod_nonneg _ hb1.1, Int.tmod_lt_of_pos _ (by omega)⟩
    have ih := ih (i + 1) (S.snoc LW (Int.tmod (tw (i + aw)) (M.length : Int))) (by omega) (by rw [snoc_len, hl]) (fun j hj => by
      rw [snoc_len] at hj
      rcases Nat.lt_or_eq_of_le (Nat.le_of_lt_succ hj) with h | h
      · rw [at_snoc_lt h]; exact hr j h
      · subst h; rw [at_snoc_eq]; exact hmod)
    apply Comes.of
    show Goes _ _ _
    (first | rw [q8] | unfold q8)
    repeat' first
      | with_reducible refine goes_if (fun h => ?_) (fun h => ?_) <;> (try simp only [lim64, imp_false, decide_eq_true_eq, decide_eq_false_iff_not, Int.toNat_natCast, toNat_pred, toNat_succ, Option.getD_some, Option.getD_none, Bool.not_eq_true', Bool.not_eq_false', Bool.and_eq_true, Bool.or_eq_true, Bool.and_eq_false_iff, Bool.or_eq_false_iff, bne_iff_ne, beq_iff_eq, bne_eq_false_iff_eq, beq_eq_false_iff_ne, ne_eq, not_and, Int.not_le, Int.not_lt, ge_iff_le, gt_iff_lt, Nat.not_lt, Nat.not_le, Bool.not_eq_true, Bool.not_eq_false, Bool.true_eq_false, Bool.false_eq_true, not_false_eq_true, not_true_eq_false] at h)
      | exact goes_none.mpr (by omega)
    all_goals first | (exfalso; omega) | exact ih
theorem s8 (al nl ml : Nat) (tl : Nat → Int) (vl : Nat → Int) (de : Int) (aw nw mw : Nat) (tw : Nat → Int) (hp : (al + nl ≤ ml ∧ aw + nw ≤ mw) ∧ (0 ≤ de ∧ de ≤ 255) ∧ S.byB (fun j => tl (j + al)) nl = true ∧ S.byB (fun j => vl (j + al)) nl = true ∧ S.byB (fun j => tw (j + aw)) nw = true) : Goes ((q8 al nl ml tl vl de aw nw mw tw)) ((p8 al nl ml tl vl de aw nw mw tw)) (true) := by
  obtain ⟨⟨hp1, hp2⟩, hd, ht, hv, hb⟩ := hp
  by_cases h8 : nl ≤ 8
  · obtain ⟨m1, m2⟩ := made_ok h8 ht hv
    generalize hM : S.madeL nl (fun j => tl (j + al)) (fun j => vl (j + al)) = M at *
    have hv0 := net_yes (L := M) (de := de) m1 (by omega) (fun j hj => by have := m2 j hj; exact ⟨this.1, by omega, by omega⟩)
    have hw1 : S.worE M.length 0 (fun j => (S.at' M j).2.1) (fun j => (S.at' M j).2.2) de = ((S.worL M de).1, (S.worL M de).2.1, (S.worL M de).2.2.1, (S.worL M de).2.2.2.1, (S.worL M de).2.2.2.2, 0) := rfl
    have hf1 : S.faiS M.length 0 = (0, S.failL M.length) := rfl
    have hm := fun (hw : 0 < nw ∧ nw ≤ 8) => s8a al nl ml tl vl de aw nw mw tw M hM hv0 hb hp2 hw nw 0 [] (Nat.zero_add _) rfl (fun j hj => absurd hj (Nat.not_lt_zero j))
    unfold p8
    simp only [hM, net_nil, hv0, hw1, hf1, ht, hv]
    show Goes _ _ _
    repeat' first
      | with_reducible exact goes_inr.mpr rfl
      | with_reducible refine goes_if (fun h => ?_) (fun h => ?_) <;> (try simp only [lim64, imp_false, decide_eq_true_eq, decide_eq_false_iff_not, Int.toNat_natCast, toNat_pred, toNat_succ, Option.getD_some, Option.getD_none, Bool.not_eq_true', Bool.not_eq_false', Bool.and_eq_true, Bool.or_eq_true, Bool.and_eq_false_iff, Bool.or_eq_false_iff, bne_iff_ne, beq_iff_eq, bne_eq_false_iff_eq, beq_eq_false_iff_ne, ne_eq, not_and, Int.not_le, Int.not_lt, ge_iff_le, gt_iff_lt, Nat.not_lt, Nat.not_le, Bool.not_eq_true, Bool.not_eq_false, Bool.true_eq_false, Bool.false_eq_true, not_false_eq_true, not_true_eq_false] at h)
      | exact goes_none.mpr (by omega)
    all_goals first | (exfalso; omega) | exact hm (by omega) | (exfalso; simp_all; done) | (exfalso; simp at *; done)
  · unfold p8
    rw [decide_eq_true (show (nl : Int) > 8 by omega)]
    exact goes_inr.mpr rfl
theorem k8_ok : k8.ok Try.prog := by
  intro x hx
  obtain ⟨⟨al, nl, ml, tl, vl, _⟩, de, ⟨aw, nw, mw, tw, _⟩, _⟩ := x
  obtain ⟨h1, h2⟩ := a8 al nl ml tl vl de aw nw mw tw (s8 al nl ml tl vl de aw nw mw tw (of_dec hx rfl))
  exact ⟨⟨400, (by decide : 2 + 1 + 0 ≤ 400), h1⟩, h2⟩
theorem pre8 {x : SsI k8.ss} (hx : ssFits k8.ss x) : k8.pre (ssj k8.ss x) = true := by
  obtain ⟨⟨n, t, v, u'⟩, d, ⟨n2, t2, u2⟩, u''⟩ := x
  obtain ⟨⟨hn, ht, hv, -⟩, hd, ⟨hn2, ht2, -⟩, -⟩ := hx
  exact decide_eq_true ⟨⟨Nat.le_of_eq (Nat.zero_add _), Nat.le_of_eq (Nat.zero_add _)⟩, hd, byB_mk ht, byB_mk hv, byB_mk ht2⟩
end Go.Ev
