/-
  The parts that the statement needs, 1 of 2.
-/
import Derived.LaidMore
import Derived.Lay
import Derived.SevenTiedAt
import Derived.Test.YtlmomkdmbacbpaaDoorCards
import Derived.Test.YtlmomkdmbacbpaaDoorEnv
import Derived.Test.YtlmomkdmbacbpaaDoorEvB
import Derived.Test.YtlmomkdmbacbpaaDoorEvY
import Derived.Test.YtlmomkdmbacbpaaDoorKit
import Derived.Test.YtlmomkdmbacbpaaDoorTie
namespace Go.Ev
open Go.Proofs
set_option linter.unusedVariables false
set_option linter.unusedSimpArgs false
set_option maxRecDepth 100000
theorem SH : type_of% (And.intro @lim64 (And.intro @imp_false (And.intro @decide_eq_true_eq (And.intro @decide_eq_false_iff_not (And.intro @Int.toNat_natCast (And.intro @toNat_pred (And.intro @toNat_succ (And.intro @Option.getD_some.{0} (And.intro @Option.getD_none.{0} (And.intro @Bool.not_eq_true' (And.intro @Bool.not_eq_false' (And.intro @Bool.and_eq_true (And.intro @Bool.or_eq_true (And.intro @Bool.and_eq_false_iff (And.intro @Bool.or_eq_false_iff (And.intro @bne_iff_ne.{0} (And.intro @beq_iff_eq.{0} (And.intro @bne_eq_false_iff_eq.{0} (And.intro @beq_eq_false_iff_ne.{0} (And.intro @ne_eq.{1} (And.intro @not_and (And.intro @Int.not_le (And.intro @Int.not_lt (And.intro @ge_iff_le.{0} (And.intro @gt_iff_lt.{0} (And.intro @Nat.not_lt (And.intro @Nat.not_le (And.intro @Bool.not_eq_true (And.intro @Bool.not_eq_false (And.intro @Bool.true_eq_false (And.intro @Bool.false_eq_true (And.intro @not_false_eq_true @not_true_eq_false)))))))))))))))))))))))))))))))) :=
  (And.intro @lim64 (And.intro @imp_false (And.intro @decide_eq_true_eq (And.intro @decide_eq_false_iff_not (And.intro @Int.toNat_natCast (And.intro @toNat_pred (And.intro @toNat_succ (And.intro @Option.getD_some.{0} (And.intro @Option.getD_none.{0} (And.intro @Bool.not_eq_true' (And.intro @Bool.not_eq_false' (And.intro @Bool.and_eq_true (And.intro @Bool.or_eq_true (And.intro @Bool.and_eq_false_iff (And.intro @Bool.or_eq_false_iff (And.intro @bne_iff_ne.{0} (And.intro @beq_iff_eq.{0} (And.intro @bne_eq_false_iff_eq.{0} (And.intro @beq_eq_false_iff_ne.{0} (And.intro @ne_eq.{1} (And.intro @not_and (And.intro @Int.not_le (And.intro @Int.not_lt (And.intro @ge_iff_le.{0} (And.intro @gt_iff_lt.{0} (And.intro @Nat.not_lt (And.intro @Nat.not_le (And.intro @Bool.not_eq_true (And.intro @Bool.not_eq_false (And.intro @Bool.true_eq_false (And.intro @Bool.false_eq_true (And.intro @not_false_eq_true @not_true_eq_false))))))))))))))))))))))))))))))))
abbrev TT := Bool → Prop → Prop → Prop
abbrev NI := Nat → Int
namespace S
def any (p : Nat → Bool) (n : Nat) : Bool := (List.range n).any p
end S
namespace S
def all (p : Nat → Bool) (n : Nat) : Bool := (List.range n).all p
end S
theorem all_iff  {p : Nat → Bool} {n : Nat} : S.all p n = true ↔ ∀ j, j < n → p j = true := by simp [S.all]
theorem all_congr  {p q : Nat → Bool} {n : Nat} (h : ∀ j, j < n → p j = q j) : S.all p n = S.all q n := by
  rw [Bool.eq_iff_iff, all_iff, all_iff]
  constructor
  · intro h1 j hj; rw [← h j hj]; exact h1 j hj
  · intro h1 j hj; rw [h j hj]; exact h1 j hj
namespace S
def valL  : List Int → Int
  | [] => 0
  | x :: r => x + 1000000 * valL r
def valF (t : Nat → Int) : Nat → Nat → Int
  | _, 0 => 0
  | i, k + 1 => t i + 1000000 * valF t (i + 1) k
def val (n : Nat) (t : Nat → Int) : Int := valF t 0 n
def trim  : List Int → List Int
  | [] => []
  | x :: r => match trim r with
    | [] => if x = 0 then [] else [x]
    | y :: s => x :: y :: s
def grpF  : Nat → Int → List Int
  | 0, _ => []
  | k + 1, v => if v ≤ 0 then [] else (v % 1000000) :: grpF k (v / 1000000)
def grpI (v : Int) : List Int := grpF v.toNat v
theorem grp_ex  : ∃ f : Int → List Int, f = grpI := ⟨grpI, rfl⟩
noncomputable def grp  : Int → List Int := Classical.choose grp_ex
theorem grp_def  : grp = grpI := Classical.choose_spec grp_ex
def digB (x : Int) : Bool := decide (0 ≤ x ∧ x < 1000000)
def okG (n : Nat) (t : Nat → Int) : Bool := all (fun j => digB (t j)) n && (decide (n = 0) || decide (t (n - 1) ≠ 0))
def okD (n : Nat) (t : Nat → Int) : Bool := all (fun j => digB (t j)) n
end S
theorem dig_iff  {x : Int} : S.digB x = true ↔ 0 ≤ x ∧ x < 1000000 := decide_eq_true_iff
theorem valL_mk  {t : Nat → Int} : ∀ {k i : Nat}, S.valL ((List.range' i k).map t) = S.valF t i k
  | 0, _ => rfl
  | k + 1, i => by
    simp only [List.range'_succ, List.map_cons, S.valL, S.valF]
    rw [valL_mk]
theorem valL_mkl  {n : Nat} {t : Nat → Int} : S.valL (S.mkl n t) = S.val n t := by
  unfold S.mkl S.val
  rw [← valL_mk (t := t) (k := n) (i := 0), List.range_eq_range']
theorem valF_congr  {t u : Nat → Int} : ∀ {k i : Nat}, (∀ j, i ≤ j → j < i + k → t j = u j) → S.valF t i k = S.valF u i k
  | 0, _, _ => rfl
  | k + 1, i, h => by
    simp only [S.valF]
    rw [h i (Nat.le_refl _) (by omega), valF_congr fun j h1 h2 => h j (by omega) (by omega)]
theorem val_congr  {n : Nat} {t u : Nat → Int} (h : ∀ j, j < n → t j = u j) : S.val n t = S.val n u := valF_congr fun j _ hj => h j (by omega)
theorem valF_nn  {t : Nat → Int} : ∀ {k i : Nat}, (∀ j, i ≤ j → j < i + k → 0 ≤ t j) → 0 ≤ S.valF t i k
  | 0, _, _ => Int.le_refl _
  | k + 1, i, h => by
    have h0 := h i (Nat.le_refl _) (by omega)
    have h1 := valF_nn (t := t) (k := k) (i := i + 1) fun j h1 h2 => h j (by omega) (by omega)
    simp only [S.valF]
    omega
theorem valL_nn  : ∀ {L : List Int}, (∀ x ∈ L, 0 ≤ x ∧ x < 1000000) → 0 ≤ S.valL L
  | [], _ => Int.le_refl _
  | x :: r, h => by
    have h0 := h x (by simp)
    have h1 := valL_nn (L := r) fun y hy => h y (by simp [hy])
    simp only [S.valL]
    omega
theorem grpF_fuel  : ∀ {k m : Nat} {v : Int}, v.toNat ≤ k → v.toNat ≤ m → S.grpF k v = S.grpF m v
  | 0, 0, _, _, _ => rfl
  | 0, m + 1, v, h1, _ => by simp only [S.grpF]; rw [if_pos (by omega)]
  | k + 1, 0, v, _, h2 => by simp only [S.grpF]; rw [if_pos (by omega)]
  | k + 1, m + 1, v, h1, h2 => by
    simp only [S.grpF]
    split
    · rfl
    · rw [grpF_fuel (k := k) (m := m) (by omega) (by omega)]
theorem grp_zero  : S.grp 0 = [] := by rw [S.grp_def]; rfl
theorem grp_neg  {v : Int} (h : v ≤ 0) : S.grp v = [] := by
  rw [S.grp_def]
  unfold S.grpI
  rw [show v.toNat = 0 by omega]
  rfl
theorem grp_pos  {v : Int} (h : 0 < v) : S.grp v = (v % 1000000) :: S.grp (v / 1000000) := by
  rw [S.grp_def]
  unfold S.grpI
  rw [show v.toNat = (v.toNat - 1) + 1 by omega]
  simp only [S.grpF]
  rw [if_neg (by omega), grpF_fuel (k := v.toNat - 1) (m := (v / 1000000).toNat) (by omega) (Nat.le_refl _)]
theorem grp_step  {x v : Int} (hx : 0 ≤ x ∧ x < 1000000) (hv : 0 ≤ v) (h : x ≠ 0 ∨ 0 < v) : S.grp (x + 1000000 * v) = x :: S.grp v := by
  rw [grp_pos (by omega), show (x + 1000000 * v) % 1000000 = x by omega, show (x + 1000000 * v) / 1000000 = v by omega]
theorem trim_grp  : ∀ {L : List Int}, (∀ x ∈ L, 0 ≤ x ∧ x < 1000000) → S.trim L = S.grp (S.valL L)
  | [], _ => grp_zero.symm
  | x :: r, h => by
    have h0 := h x (by simp)
    have hr : ∀ y ∈ r, 0 ≤ y ∧ y < 1000000 := fun y hy => h y (by simp [hy])
    have h1 := valL_nn hr
    have ih := trim_grp hr
    simp only [S.trim, S.valL]
    rw [ih]
    rcases Int.lt_or_eq_of_le h1 with h2 | h2
    · rw [grp_step h0 h1 (.inr h2), grp_pos h2]
    · rw [← h2, grp_zero]
      by_cases hx : x = 0
      · subst hx; rw [show (0 : Int) + 1000000 * 0 = 0 from rfl, grp_zero]; rfl
      · simp only [if_neg hx]
        rw [grp_step h0 (Int.le_refl _) (.inl hx), grp_zero]
theorem trim_snoc0  : ∀ {L : List Int}, S.trim (L ++ [0]) = S.trim L
  | [] => rfl
  | x :: r => by simp only [List.cons_append, S.trim]; rw [trim_snoc0]
theorem trim_snoc  : ∀ {L : List Int} {x : Int}, x ≠ 0 → S.trim (L ++ [x]) = L ++ [x]
  | [], x, h => by simp [S.trim, h]
  | y :: r, x, h => by
    simp only [List.cons_append, S.trim]
    rw [trim_snoc h]
    cases hr : r ++ [x] with
    | nil => simp at hr
    | cons a c => rfl
theorem snoc_eq  {L : List Int} {x : Int} : S.snoc L x = L ++ [x] := by simp [S.snoc]
theorem okG_iff  {n : Nat} {t : Nat → Int} : S.okG n t = true ↔ (∀ j, j < n → 0 ≤ t j ∧ t j < 1000000) ∧ (n = 0 ∨ t (n - 1) ≠ 0) := by
  unfold S.okG
  rw [Bool.and_eq_true, Bool.or_eq_true, all_iff, decide_eq_true_eq, decide_eq_true_eq]
  simp only [dig_iff]
theorem okD_iff  {n : Nat} {t : Nat → Int} : S.okD n t = true ↔ ∀ j, j < n → 0 ≤ t j ∧ t j < 1000000 := by
  unfold S.okD
  rw [all_iff]
  simp only [dig_iff]
theorem okG_D  {n : Nat} {t : Nat → Int} (h : S.okG n t = true) : S.okD n t = true := okD_iff.mpr (okG_iff.mp h).1
theorem mem_mkl  {n : Nat} {t : Nat → Int} {x : Int} (h : x ∈ S.mkl n t) : ∃ j, j < n ∧ x = t j := by
  unfold S.mkl at h
  simp only [List.mem_map, List.mem_range] at h
  obtain ⟨j, h1, h2⟩ := h
  exact ⟨j, h1, h2.symm⟩
theorem ok_grp  {n : Nat} {t : Nat → Int} (h : S.okG n t = true) : S.mkl n t = S.grp (S.val n t) := by
  obtain ⟨h1, h2⟩ := okG_iff.mp h
  rw [← valL_mkl, ← trim_grp fun x hx => by obtain ⟨j, hj, rfl⟩ := mem_mkl hx; exact h1 j hj]
  rcases h2 with h2 | h2
  · subst h2; rfl
  · cases n with
    | zero => rfl
    | succ n => rw [mkl_succ, snoc_eq, trim_snoc (by simpa using h2)]
theorem val_nn  {n : Nat} {t : Nat → Int} (h : S.okD n t = true) : 0 ≤ S.val n t := valF_nn fun j _ hj => (okD_iff.mp h j (by omega)).1
theorem val_pos  {n : Nat} {t : Nat → Int} (h : S.okG n t = true) (hn : 0 < n) : 0 < S.val n t := by
  rcases Int.lt_or_eq_of_le (val_nn (okG_D h)) with h1 | h1
  · exact h1
  · have := ok_grp h
    rw [← h1, grp_zero] at this
    have h2 := congrArg List.length this
    rw [mkl_len] at h2
    exact absurd h2 (by simp; omega)
theorem len_pos  {v : Int} (h : 0 < v) : 0 < (S.grp v).length := by rw [grp_pos h]; simp
namespace S
def trimN (n : Nat) (t : Nat → Int) : Nat := (trim (mkl n t)).length
end S
theorem trim_mkl0  {n : Nat} {t : Nat → Int} (h : t n = 0) : S.trim (S.mkl (n + 1) t) = S.trim (S.mkl n t) := by rw [mkl_succ, snoc_eq, h, trim_snoc0]
theorem trim_mkl1  {n : Nat} {t : Nat → Int} (h : t n ≠ 0) : S.trim (S.mkl (n + 1) t) = S.mkl (n + 1) t := by rw [mkl_succ, snoc_eq, trim_snoc h]
inductive St69 where
  | h0 (x0 : List Int)
abbrev Rt69  := List Int
noncomputable def V69 (np mp : Nat) (tp : NI) (r : Rt69) : PV := PV.own (0) (1) (List.length r)
noncomputable def N69 (np mp : Nat) (tp : NI) (r : Rt69) : List Blk := []
noncomputable def W69 (np mp : Nat) (tp : Nat → Int) (r : Rt69) : Nat → Blk := fun n => bif Nat.beq n 0 then Blk.cols (List.length r) [Col.int IntKind.i64 fun j => S.at' r j] else .dead
noncomputable def I69 (np mp : Nat) (tp : NI) : St69 → Hd
  | .h0 x0 => ⟨hd Tryd.f69 0, [PV.own (0) (1) (List.length x0)], [[], [(0, (true, Blk.cols (List.length x0) [Col.int .i64 fun j => S.at' x0 j]))]], 1⟩
noncomputable def q69 (np mp : Nat) (tp : NI) : St69 → Option (St69 ⊕ Rt69) | .h0 x0 => bif (decide ((↑(List.length x0) : Int) > 0)) then (bif (lim .i64 ((↑(List.length x0) : Int) - 1)) then (bif (decide ((0 : Int) ≤ (↑(List.length x0) : Int) - 1 ∧ (↑(List.length x0) : Int) - 1 < (↑(List.length x0) : Int))) then (bif (decide (Int.toNat ((↑(List.length x0) : Int) - 1) < List.length x0)) then (bif (S.at' x0 (Int.toNat ((↑(List.length x0) : Int) - 1)) == 0) then (bif (decide ((0 : Int) ≤ (↑(List.length x0) : Int) - 1 ∧ (↑(List.length x0) : Int) - 1 ≤ (↑(List.length x0) : Int))) then (some (.inl (.h0 (S.mkl (Int.toNat ((↑(List.length x0) : Int) - 1)) fun j => S.at' x0 j)))) else (none)) else (some (.inr (x0)))) else (none)) else (none)) else (none)) else (some (.inr (x0)))
noncomputable def p69 (np mp : Nat) (tp : NI) : Option (St69 ⊕ Rt69) := some (.inl (.h0 (S.mkl np fun j => tp j)))
noncomputable def Te69 (test : TT) (Kst : KS) (Kret : KR) (np mp : Nat) (tp : NI) : Prop := Kst (hd Tryd.f69 0) ([PV.own (0) (1) np]) ([[(0, true, Blk.cols np [Col.int .i64 tp])]]) (1)
theorem te69 (test : TT) (Kst : KS) (Kret : KR) (np mp : Nat) (tp : NI) : run test Tryd.env true noX true 400 ⟨69, [.cd (mkFn Tryd.f69).body], argT 0 [.own 0 1 np], [[], [(0, (true, .cols np [.int .i64 tp]))]], 1⟩ (proj 1 [0] Kst Kret) =
  Te69 test Kst Kret np mp tp := by kernel_rfl
noncomputable def T69_0 (test : TT) (Kst : KS) (Kret : KR) (np mp : Nat) (tp : NI) (x0 : List Int) : Prop := test (decide ((↑(List.length x0) : Int) > 0)) (test (lim .i64 ((↑(List.length x0) : Int) - 1)) (test (decide ((0 : Int) ≤ (↑(List.length x0) : Int) - 1 ∧ (↑(List.length x0) : Int) - 1 < (↑(List.length x0) : Int))) (test (decide (Int.toNat ((↑(List.length x0) : Int) - 1) < List.length x0)) (test (S.at' x0 (Int.toNat ((↑(List.length x0) : Int) - 1)) == 0) (test (lim .i64 ((↑(List.length x0) : Int) - 1)) (test (decide ((0 : Int) ≤ (↑(List.length x0) : Int) - 1 ∧ (↑(List.length x0) : Int) - 1 ≤ (↑(List.length x0) : Int))) (Kst (hd Tryd.f69 0) ([PV.own (0) (1) (Int.toNat ((↑(List.length x0) : Int) - 1))]) ([[(0, true, Blk.cols (List.length x0) [Col.int .i64 fun j => S.at' x0 j])]]) (1)) (False)) (False)) (Kret (PV.own (0) (1) (List.length x0)) ([[(0, true, Blk.cols (List.length x0) [Col.int .i64 fun j => S.at' x0 j])]]) (1))) (False)) (False)) (False)) (Kret (PV.own (0) (1) (List.length x0)) ([[(0, true, Blk.cols (List.length x0) [Col.int .i64 fun j => S.at' x0 j])]]) (1))
theorem t69_0 (test : TT) (Kst : KS) (Kret : KR) (np mp : Nat) (tp : NI) (x0 : List Int) : run test Tryd.env true noX true 400 ⟨69, hd Tryd.f69 0, zipT [0] [PV.own (0) (1) (List.length x0)], [[], [(0, (true, Blk.cols (List.length x0) [Col.int .i64 fun j => S.at' x0 j]))]], 1⟩ (proj 1 [0] Kst Kret) =
  T69_0 test Kst Kret np mp tp x0 := by kernel_rfl
noncomputable abbrev J69 (np mp : Nat) (tp : NI) : Rt69 → Heap := fun r => [newL (1 + 1) ((N69 np mp tp) r) ++ [(0, (true, ((W69 np mp tp) r 0)))]]
attribute [local irreducible] Int.subNatNat in
theorem be69 (np mp : Nat) (tp : NI) (Kst : KS) (Kret : KR) (x : St69 ⊕ Rt69) (hS : HS 1 400 ((I69 np mp tp)) Kst x) (hR : HR 1 400 ((V69 np mp tp)) (J69 np mp tp) Kret x) (h : (some (.inl (.h0 (S.mkl np fun j => tp j))) : Option (St69 ⊕ Rt69)) = some x) : Te69 cond Kst Kret np mp tp := by
  unfold Te69
  exact stop_at hS _ h (fun n => n) rfl rfl rfl ⟨(rn_own (use_lo rfl) rfl mkl_len), trivial⟩ rfl (entl_new (use_lo rfl) rfl (Nat.le_of_eq mkl_len) (rcs_int (fun _ hj => col_mkl (fun (t : Int) => t) hj) rcs_nil) entl_nil)
attribute [local irreducible] Int.subNatNat in
theorem b69_0 (np mp : Nat) (tp : NI) (Kst : KS) (Kret : KR) (x : St69 ⊕ Rt69) (hS : HS 1 400 ((I69 np mp tp)) Kst x) (hR : HR 1 400 ((V69 np mp tp)) (J69 np mp tp) Kret x) (x0 : List Int) (h : q69 np mp tp (.h0 x0) = some x) : T69_0 cond Kst Kret np mp tp x0 := by
  unfold T69_0
  rw [q69] at h
  exact bif_split h (fun c0 h => bif_split h (fun c1 h => bif_split h (fun c2 h => bif_split h (fun c3 h => bif_split h (fun c4 h => cond_yes c1 (bif_split h (fun c5 h => stop_at hS _ h (fun n => n) rfl rfl rfl ⟨(rn_own (use_lo rfl) rfl mkl_len), trivial⟩ rfl (entl_new (use_lo rfl) rfl (by first | exact Nat.le_of_eq mkl_len | (simp only [mkl_len, snoc_len]; omega)) (rcs_int (fun _ hj => col_mkl (fun (t : Int) => t) hj) rcs_nil) entl_nil)) (fun c5 h => no_some h))) (fun c4 h => ret_at hR _ h (fun n => n) rfl rfl rfl (rn_own (use_lo rfl) rfl rfl) rfl (entl_new (use_lo rfl) rfl (Nat.le_of_eq rfl) (rcs_int (fun _ _ => rfl) rcs_nil) entl_nil))) (fun c3 h => no_some h)) (fun c2 h => no_some h)) (fun c1 h => no_some h)) (fun c0 h => ret_at hR _ h (fun n => n) rfl rfl rfl (rn_own (use_lo rfl) rfl rfl) rfl (entl_new (use_lo rfl) rfl (Nat.le_of_eq rfl) (rcs_int (fun _ _ => rfl) rcs_nil) entl_nil))
theorem a69 (np mp : Nat) (tp : NI) {r : Rt69} (h : Goes ((q69 np mp tp)) ((p69 np mp tp)) r) : CallR Tryd.prog 69 [.own 0 1 np] [[(0, (true, .cols np [.int .i64 tp]))]] 1 ((V69 np mp tp) r) ((J69 np mp tp) r) 400 ∧ ∃ F, Tryd.prog.funcs[69]? = some F ∧ F.body.isSome = true ∧ (F.name == "runtime.NumGoroutine") = false := by
  refine dec_calls (f := 69) (lo := 1) (hi := 400) Tryd.envOk Tryd.mixed noX_ok ((I69 np mp tp)) ((V69 np mp tp)) (J69 np mp tp) (fn := mkFn Tryd.f69) (ts := [0]) (n := 400) rfl (by decide) (by simp) (names_of rfl) ?_ ?_ ?_ h
  · intro s; cases s <;> exact ⟨hd_ok _ _, by simp [I69], names_of rfl, Nat.le_of_ble_eq_true rfl⟩
  · intro Kst Kret x hS hR h
    exact Holds.eq (te69 cond Kst Kret np mp tp) (be69 np mp tp Kst Kret x hS hR h)
  · intro Kst Kret x hS hR s h
    cases s with
    | h0 x0 => exact Holds.eq (t69_0 cond Kst Kret np mp tp x0) (b69_0 np mp tp Kst Kret x hS hR x0 h)
noncomputable abbrev w69 {α : Type} (g : Nat → Nat → (Nat → Int) → α) (x : (Nat × Nat × (Nat → Int) × Unit) × Unit) : α := g x.1.1 x.1.2.1 x.1.2.2.1
noncomputable def k69  : Con := ⟨69, [.one (.own [.int .i64])], w69 (fun np mp tp => decide (np ≤ 1000000)), w69 (fun np mp tp => (V69 np mp tp) (S.trim (S.mkl np tp))), w69 (fun np mp tp => (N69 np mp tp) (S.trim (S.mkl np tp))), w69 (fun np mp tp => (W69 np mp tp) (S.trim (S.mkl np tp)))⟩
theorem s69' (np mp : Nat) (tp : Nat → Int) : ∀ (n : Nat) (L : List Int), L.length = n → n ≤ 1000000 → Comes (q69 np mp tp) (.h0 L) (S.trim L) := by
  intro n
  induction n with
  | zero =>
    intro L hL hn
    obtain rfl : L = [] := List.length_eq_zero_iff.mp hL
    apply Comes.of
    show Goes _ _ _
    (first | rw [q69] | unfold q69)
    repeat' (first | with_reducible refine goes_if (fun h => ?_) (fun h => ?_) <;> (try simp only [SH] at h) | exact goes_none.mpr (by omega))
    all_goals first | (exfalso; simp at *; done) | exact goes_inr.mpr rfl
  | succ n ih =>
    intro L hL hn
    have e1 : ((L.length : Int) - 1).toNat = n := by omega
    have ih := ih (S.mkl n (S.at' L)) mkl_len (by omega)
    have e2 : S.trim L = S.trim (S.mkl (n + 1) (S.at' L)) := by rw [← hL, mkl_at]
    rw [e2]
    by_cases h0 : S.at' L n = 0
    · rw [trim_mkl0 h0]
      apply Comes.of
      show Goes _ _ _
      (first | rw [q69] | unfold q69)
      repeat' (first | with_reducible refine goes_if (fun h => ?_) (fun h => ?_) <;> (try simp only [SH, e1] at h) | exact goes_none.mpr (by omega))
      all_goals first | (exfalso; omega) | (rw [e1]; exact ih)
    · rw [trim_mkl1 h0, ← hL, mkl_at]
      apply Comes.of
      show Goes _ _ _
      (first | rw [q69] | unfold q69)
      repeat' (first | with_reducible refine goes_if (fun h => ?_) (fun h => ?_) <;> (try simp only [SH, e1] at h) | exact goes_none.mpr (by omega))
      all_goals first | (exfalso; omega) | exact goes_inr.mpr rfl
theorem s69 (np mp : Nat) (tp : Nat → Int) (hp : np ≤ 1000000) : Goes ((q69 np mp tp)) ((p69 np mp tp)) (S.trim (S.mkl np tp)) := by
  exact s69' np mp tp np (S.mkl np tp) mkl_len hp
theorem k69_ok  : k69.ok Tryd.prog := by
  intro x hx
  obtain ⟨⟨np, mp, tp, _⟩, _⟩ := x
  obtain ⟨h1, h2⟩ := a69 np mp tp (s69 np mp tp (of_dec hx rfl))
  exact ⟨⟨400, (by decide : 1 + 1 + 0 ≤ 400), h1⟩, h2⟩
inductive St69v where
  | h0 (x0 : Nat) (x1 : Nat)
abbrev Rt69v  := Nat × Nat
noncomputable def V69v (ap np mp : Nat) (tp : NI) (r : Rt69v) : PV := PV.loose (PA.mk (0) (1) r.1 (0)) r.2
noncomputable def N69v (ap np mp : Nat) (tp : NI) (r : Rt69v) : List Blk := []
noncomputable def I69v (ap np mp : Nat) (tp : NI) : St69v → Hd
  | .h0 x0 x1 => ⟨hd Tryd.f69 0, [PV.loose (PA.mk (0) (1) x0 (0)) x1], [[], [(0, (false, .cols mp [.int .i64 tp]))]], 1⟩
noncomputable def q69v (ap np mp : Nat) (tp : NI) : St69v → Option (St69v ⊕ Rt69v) | .h0 x0 x1 => bif (decide ((↑x1 : Int) > 0)) then (bif (lim .i64 ((↑x1 : Int) - 1)) then (bif (decide ((0 : Int) ≤ (↑x1 : Int) - 1 ∧ (↑x1 : Int) - 1 < (↑x1 : Int))) then (bif (decide (Int.toNat ((↑x1 : Int) - 1) + x0 < mp)) then (bif (tp (Int.toNat ((↑x1 : Int) - 1) + x0) == 0) then (bif (decide ((0 : Int) ≤ Option.getD Option.none (0 : Int) ∧ (0 : Int) ≤ (↑x1 : Int) - 1 ∧ (↑x1 : Int) - 1 ≤ (↑x1 : Int))) then (some (.inl (.h0 (0 + x0) (Int.toNat ((↑x1 : Int) - 1))))) else (none)) else (some (.inr (x0, x1)))) else (none)) else (none)) else (none)) else (some (.inr (x0, x1)))
noncomputable def p69v (ap np mp : Nat) (tp : NI) : Option (St69v ⊕ Rt69v) := some (.inl (.h0 (ap) (np)))
noncomputable def Te69v (test : TT) (Kst : KS) (Kret : KR) (ap np mp : Nat) (tp : NI) : Prop := Kst (hd Tryd.f69 0) ([PV.loose (PA.mk (0) (1) ap (0)) np]) ([[(0, false, Blk.cols mp [Col.int .i64 tp])]]) (1)
theorem te69v (test : TT) (Kst : KS) (Kret : KR) (ap np mp : Nat) (tp : NI) : run test Tryd.env true noX true 400 ⟨69, [.cd (mkFn Tryd.f69).body], argT 0 [.loose ⟨0, 1, ap, 0⟩ np], [[], [(0, (false, .cols mp [.int .i64 tp]))]], 1⟩ (proj 1 [0] Kst Kret) =
  Te69v test Kst Kret ap np mp tp := by kernel_rfl
noncomputable def T69v_0 (test : TT) (Kst : KS) (Kret : KR) (ap np mp : Nat) (tp : NI) (x0 x1 : Nat) : Prop := test (decide ((↑x1 : Int) > 0)) (test (lim .i64 ((↑x1 : Int) - 1)) (test (decide ((0 : Int) ≤ (↑x1 : Int) - 1 ∧ (↑x1 : Int) - 1 < (↑x1 : Int))) (test (decide (Int.toNat ((↑x1 : Int) - 1) + x0 < mp)) (test (tp (Int.toNat ((↑x1 : Int) - 1) + x0) == 0) (test (lim .i64 ((↑x1 : Int) - 1)) (test (decide ((0 : Int) ≤ Option.getD Option.none (0 : Int) ∧ (0 : Int) ≤ (↑x1 : Int) - 1 ∧ (↑x1 : Int) - 1 ≤ (↑x1 : Int))) (Kst (hd Tryd.f69 0) ([PV.loose (PA.mk (0) (1) (0 + x0) (0)) (Int.toNat ((↑x1 : Int) - 1))]) ([[(0, false, Blk.cols mp [Col.int .i64 tp])]]) (1)) (False)) (False)) (Kret (PV.loose (PA.mk (0) (1) x0 (0)) x1) ([[(0, false, Blk.cols mp [Col.int .i64 tp])]]) (1))) (False)) (False)) (False)) (Kret (PV.loose (PA.mk (0) (1) x0 (0)) x1) ([[(0, false, Blk.cols mp [Col.int .i64 tp])]]) (1))
theorem t69v_0 (test : TT) (Kst : KS) (Kret : KR) (ap np mp : Nat) (tp : NI) (x0 x1 : Nat) : run test Tryd.env true noX true 400 ⟨69, hd Tryd.f69 0, zipT [0] [PV.loose (PA.mk (0) (1) x0 (0)) x1], [[], [(0, (false, .cols mp [.int .i64 tp]))]], 1⟩ (proj 1 [0] Kst Kret) =
  T69v_0 test Kst Kret ap np mp tp x0 x1 := by kernel_rfl
noncomputable abbrev J69v (ap np mp : Nat) (tp : NI) : Rt69v → Heap := fun r => [newL (1 + 1) ((N69v ap np mp tp) r) ++ [(0, (false, .cols mp [.int .i64 tp]))]]
attribute [local irreducible] Int.subNatNat in
theorem be69v (ap np mp : Nat) (tp : NI) (Kst : KS) (Kret : KR) (x : St69v ⊕ Rt69v) (hS : HS 1 400 ((I69v ap np mp tp)) Kst x) (hR : HR 1 400 ((V69v ap np mp tp)) (J69v ap np mp tp) Kret x) (h : (some (.inl (.h0 (ap) (np))) : Option (St69v ⊕ Rt69v)) = some x) : Te69v cond Kst Kret ap np mp tp := by
  unfold Te69v
  exact stop_at hS _ h (fun n => n) rfl rfl rfl ⟨(rn_loose (use_lo rfl) rfl rfl rfl), trivial⟩ rfl (entl_bor (use_lo rfl) rfl rfl entl_nil)
attribute [local irreducible] Int.subNatNat in
theorem b69v_0 (ap np mp : Nat) (tp : NI) (Kst : KS) (Kret : KR) (x : St69v ⊕ Rt69v) (hS : HS 1 400 ((I69v ap np mp tp)) Kst x) (hR : HR 1 400 ((V69v ap np mp tp)) (J69v ap np mp tp) Kret x) (x0 x1 : Nat) (h : q69v ap np mp tp (.h0 x0 x1) = some x) : T69v_0 cond Kst Kret ap np mp tp x0 x1 := by
  unfold T69v_0
  rw [q69v] at h
  exact bif_split h (fun c0 h => bif_split h (fun c1 h => bif_split h (fun c2 h => bif_split h (fun c3 h => bif_split h (fun c4 h => cond_yes c1 (bif_split h (fun c5 h => stop_at hS _ h (fun n => n) rfl rfl rfl ⟨(rn_loose (use_lo rfl) rfl rfl rfl), trivial⟩ rfl (entl_bor (use_lo rfl) rfl rfl entl_nil)) (fun c5 h => no_some h))) (fun c4 h => ret_at hR _ h (fun n => n) rfl rfl rfl (rn_loose (use_lo rfl) rfl rfl rfl) rfl (entl_bor (use_lo rfl) rfl rfl entl_nil))) (fun c3 h => no_some h)) (fun c2 h => no_some h)) (fun c1 h => no_some h)) (fun c0 h => ret_at hR _ h (fun n => n) rfl rfl rfl (rn_loose (use_lo rfl) rfl rfl rfl) rfl (entl_bor (use_lo rfl) rfl rfl entl_nil))
theorem a69v (ap np mp : Nat) (tp : NI) {r : Rt69v} (h : Goes ((q69v ap np mp tp)) ((p69v ap np mp tp)) r) : CallR Tryd.prog 69 [.loose ⟨0, 1, ap, 0⟩ np] [[(0, (false, .cols mp [.int .i64 tp]))]] 1 ((V69v ap np mp tp) r) ((J69v ap np mp tp) r) 400 ∧ ∃ F, Tryd.prog.funcs[69]? = some F ∧ F.body.isSome = true ∧ (F.name == "runtime.NumGoroutine") = false := by
  refine dec_calls (f := 69) (lo := 1) (hi := 400) Tryd.envOk Tryd.mixed noX_ok ((I69v ap np mp tp)) ((V69v ap np mp tp)) (J69v ap np mp tp) (fn := mkFn Tryd.f69) (ts := [0]) (n := 400) rfl (by decide) (by simp) (names_of rfl) ?_ ?_ ?_ h
  · intro s; cases s <;> exact ⟨hd_ok _ _, by simp [I69v], names_of rfl, Nat.le_of_ble_eq_true rfl⟩
  · intro Kst Kret x hS hR h
    exact Holds.eq (te69v cond Kst Kret ap np mp tp) (be69v ap np mp tp Kst Kret x hS hR h)
  · intro Kst Kret x hS hR s h
    cases s with
    | h0 x0 x1 => exact Holds.eq (t69v_0 cond Kst Kret ap np mp tp x0 x1) (b69v_0 ap np mp tp Kst Kret x hS hR x0 x1 h)
noncomputable abbrev w69v {α : Type} (g : Nat → Nat → Nat → (Nat → Int) → α) (x : (Nat × Nat × Nat × (Nat → Int) × Unit) × Unit) : α := g x.1.1 x.1.2.1 x.1.2.2.1 x.1.2.2.2.1
noncomputable def k69v  : Con := ⟨69, [.one (.list [.int .i64])], w69v (fun ap np mp tp => decide (ap + np ≤ mp ∧ np ≤ 1000000)), w69v (fun ap np mp tp => (V69v ap np mp tp) ((ap, S.trimN np (fun j => tp (j + ap))))), w69v (fun ap np mp tp => (N69v ap np mp tp) ((ap, S.trimN np (fun j => tp (j + ap))))), fun _ _ => .dead⟩
theorem s69v' (ap np mp : Nat) (tp : Nat → Int) (hp : ap + np ≤ mp ∧ np ≤ 1000000) : ∀ (n : Nat), n ≤ np → Comes (q69v ap np mp tp) (.h0 ap n) (ap, S.trimN n (fun j => tp (j + ap))) := by
  obtain ⟨hp1, hp2⟩ := hp
  intro n
  induction n with
  | zero =>
    intro hn
    apply Comes.of
    show Goes _ _ _
    (first | rw [q69v] | unfold q69v)
    repeat' (first | with_reducible refine goes_if (fun h => ?_) (fun h => ?_) <;> (try simp only [SH] at h) | exact goes_none.mpr (by omega))
    all_goals first | (exfalso; omega) | exact goes_inr.mpr rfl
  | succ n ih =>
    intro hn
    have ih := ih (by omega)
    have e1 : (((n + 1 : Nat) : Int) - 1).toNat = n := by omega
    unfold S.trimN at ih ⊢
    by_cases h0 : tp (n + ap) = 0
    · rw [trim_mkl0 (t := fun j => tp (j + ap)) h0]
      apply Comes.of
      show Goes _ _ _
      (first | rw [q69v] | unfold q69v)
      repeat' (first | with_reducible refine goes_if (fun h => ?_) (fun h => ?_) <;> (try simp only [SH, e1] at h) | exact goes_none.mpr (by omega))
      all_goals first | (exfalso; omega) | (rw [Nat.zero_add, e1]; exact ih)
    · rw [trim_mkl1 (t := fun j => tp (j + ap)) h0, mkl_len]
      apply Comes.of
      show Goes _ _ _
      (first | rw [q69v] | unfold q69v)
      repeat' (first | with_reducible refine goes_if (fun h => ?_) (fun h => ?_) <;> (try simp only [SH, e1] at h) | exact goes_none.mpr (by omega))
      all_goals first | (exfalso; omega) | exact goes_inr.mpr rfl
theorem s69v (ap np mp : Nat) (tp : Nat → Int) (hp : ap + np ≤ mp ∧ np ≤ 1000000) : Goes ((q69v ap np mp tp)) ((p69v ap np mp tp)) ((ap, S.trimN np (fun j => tp (j + ap)))) := by
  exact s69v' ap np mp tp hp np (Nat.le_refl _)
theorem k69v_ok  : k69v.ok Tryd.prog := by
  intro x hx
  obtain ⟨⟨ap, np, mp, tp, _⟩, _⟩ := x
  obtain ⟨h1, h2⟩ := a69v ap np mp tp (s69v ap np mp tp (of_dec hx rfl))
  exact ⟨⟨400, (by decide : 1 + 1 + 0 ≤ 400), h1⟩, h2⟩
namespace S
def pw  : Nat → Int
  | 0 => 1
  | k + 1 => 1000000 * pw k
end S
theorem suf_step  {t : Nat → Int} {n i : Nat} (hi : i < n) : S.valF t i (n - i) = t i + 1000000 * S.valF t (i + 1) (n - (i + 1)) := by
  rw [show n - i = (n - (i + 1)) + 1 by omega]; rfl
noncomputable abbrev w45 {α : Type} (g : Nat → Nat → Nat → (Nat → Int) → α) (x : (Nat × Nat × Nat × (Nat → Int) × Unit) × Unit) : α := g x.1.1 x.1.2.1 x.1.2.2.1 x.1.2.2.2.1
noncomputable def k45  : Con := ⟨45, [.one (.list [.int .i64])], w45 (fun aa na ma ta => decide (aa + na ≤ ma ∧ na ≤ 1000000)), w45 (fun aa na ma ta => .own 2 1 na), w45 (fun aa na ma ta => [.cols na [.int .i64 (fun j => ta (j + aa))]]), fun _ _ => .dead⟩
theorem e45s (test : Bool → Prop → Prop → Prop) (Kst : List It → List PV → Heap → Nat → Prop) (Kret : PV → Heap → Nat → Prop) (aa na ma : Nat) (ta : Nat → Int) :
  (run test Tryd.env true noX true 300 ⟨45, [.cd (mkFn Tryd.f45).body], argT 0 [.sl ⟨0, 1, aa, 0⟩ na], [[], [(0, (false, .cols ma [.int .i64 ta]))]], 1⟩ (proj 1 [] Kst Kret)) =
  (test (decide (0 + na ≤ 1000000))
  (test true
    (test (decide (aa + na ≤ ma))
      (Kret (PV.own (2) (1) (0 + na))
        [[(0, false, Blk.cols ma [Col.int IntKind.i64 ta]),
            (2, true, Blk.cols (0 + na) [Col.int IntKind.i64 fun j => ta (j + aa)])]]
        (3))
      False)
    False)
  False) := by kernel_rfl
theorem c45s (aa na ma : Nat) (ta : NI) (hp : aa + na ≤ ma ∧ na ≤ 1000000) (h0 : 0 < na) : CallR Tryd.prog 45 [.sl ⟨0, 1, aa, 0⟩ na] [[(0, (false, .cols ma [.int .i64 ta]))]] 1 (.own 2 1 na) [(2, (true, .cols na [.int .i64 (fun j => ta (j + aa))])) :: [(0, (false, .cols ma [.int .i64 ta]))]] 40 ∧ ∃ F, Tryd.prog.funcs[45]? = some F ∧ F.body.isSome = true ∧ (F.name == "runtime.NumGoroutine") = false := by
  refine @ret_eq _ _ Tryd.envOk Tryd.mixed _ noX_ok 45 (mkFn Tryd.f45) [.sl ⟨0, 1, aa, 0⟩ na] [[(0, (false, .cols ma [.int .i64 ta]))]] [(2, (true, .cols na [.int .i64 (fun j => ta (j + aa))])) :: [(0, (false, .cols ma [.int .i64 ta]))]] 1 40 (.own 2 1 na) true 300 rfl (by decide) (by simp) (names_of rfl) _ (e45s cond _ _ aa na ma ta) ?_
  repeat' first
    | with_reducible refine cond_yes rfl ?_
    | with_reducible refine cond_no rfl ?_
    | (with_reducible refine cond_intro (fun h => ?_) (fun h => ?_)) <;> (try simp only [lim64, decide_eq_true_eq, decide_eq_false_iff_not, reduceCtorEq, Int.toNat_natCast, Bool.not_eq_true', Bool.not_eq_false', Bool.and_eq_true, Bool.or_eq_true, Bool.and_eq_false_iff, Bool.or_eq_false_iff, bne_iff_ne, beq_iff_eq, bne_eq_false_iff_eq, beq_eq_false_iff_ne, ne_eq] at h)
  all_goals first
    | with_reducible apply ret_k
    | omega
  repeat' first
    | with_reducible exact rns_nil
    | with_reducible refine rns_cons ?_ ?_
    | with_reducible refine rn_tup ?_
    | with_reducible refine rn_agg ?_
    | with_reducible refine rn_int ?_
    | with_reducible refine rn_tf ?_
    | with_reducible refine rn_bool_tf ?_
    | with_reducible refine rn_bool ?_
    | with_reducible refine rn_str ?_
    | with_reducible exact rn_nils
    | with_reducible refine rn_own_nils ?_
    | with_reducible refine rn_own ?_ ?_ ?_
    | with_reducible refine rn_own_sl ?_ ?_ ?_ ?_ ?_
    | with_reducible refine rn_own_loose ?_ ?_ ?_ ?_
    | with_reducible refine rn_loose ?_ ?_ ?_ ?_
    | with_reducible refine rn_loose_sl ?_ ?_ ?_ ?_
    | exact use_lo rfl
    | exact use_own rfl
    | exact nm_k rfl
    | exact nm_lo rfl
    | ((with_reducible refine (id : pos _ = pos _ → _) ?_); exact rfl)
    | ((with_reducible refine (id : pos _ = 0 → _) ?_); exact rfl)
    | ((with_reducible refine (id : Nat.ble _ _ = true → _) ?_); exact rfl)
    | ((with_reducible refine (id : injL _ _ = true → _) ?_); exact rfl)
    | ((with_reducible refine (id : plainC _ = true → _) ?_); exact rfl)
    | ((with_reducible refine (id : hget _ _ = some _ → _) ?_); exact rfl)
    | with_reducible exact (id : (_ : Bool) = true → _ = true)
    | with_reducible exact entl_nil
    | with_reducible refine entl_bor ?_ ?_ ?_ ?_
    | refine entl_new (use_own rfl) (by rfl) ?_ ?_ ?_
    | refine entl_rows (use_own rfl) (by rfl) rfl ?_ (nthc_all ?_) ?_
    | refine entl_zero (use_own rfl) (by rfl) (by simp) (by omega) ?_
    | with_reducible exact rcs_nil
    | with_reducible refine rcs_int (fun j hj => ?_) ?_
    | with_reducible refine rcs_bool (fun j hj => ?_) ?_
    | with_reducible refine rcs_str (fun j hj => ?_) ?_
    | refine entl_fresh (k := 2) (use_own rfl) (fresh_ok (n := 39) rfl) ?_
    | with_reducible rfl
  all_goals try exact (0 : Nat)
  all_goals try ((with_reducible refine (id : injL _ _ = true → _) ?_); exact rfl)
  all_goals first
    | omega
    | skip
theorem e45z (test : Bool → Prop → Prop → Prop) (Kst : List It → List PV → Heap → Nat → Prop) (Kret : PV → Heap → Nat → Prop) (aa na ma : Nat) (ta : Nat → Int) :
  (run test Tryd.env true noX true 300 ⟨45, [.cd (mkFn Tryd.f45).body], argT 0 [.zer true], [[], [(0, (false, .cols ma [.int .i64 ta]))]], 1⟩ (proj 1 [] Kst Kret)) =
  (Kret (PV.own (1) (1) (0))
  [[(0, false, Blk.cols ma [Col.int IntKind.i64 ta]), (1, true, Blk.cells [])]] (2)) := by kernel_rfl
theorem c45z (aa na ma : Nat) (ta : NI) (hp : aa + na ≤ ma ∧ na ≤ 1000000) (h0 : na = 0) : CallR Tryd.prog 45 [.zer true] [[(0, (false, .cols ma [.int .i64 ta]))]] 1 (.own 2 1 na) [(2, (true, .cols na [.int .i64 (fun j => ta (j + aa))])) :: [(0, (false, .cols ma [.int .i64 ta]))]] 40 ∧ ∃ F, Tryd.prog.funcs[45]? = some F ∧ F.body.isSome = true ∧ (F.name == "runtime.NumGoroutine") = false := by
  refine @ret_eq _ _ Tryd.envOk Tryd.mixed _ noX_ok 45 (mkFn Tryd.f45) [.zer true] [[(0, (false, .cols ma [.int .i64 ta]))]] [(2, (true, .cols na [.int .i64 (fun j => ta (j + aa))])) :: [(0, (false, .cols ma [.int .i64 ta]))]] 1 40 (.own 2 1 na) true 300 rfl (by decide) (by simp) (names_of rfl) _ (e45z cond _ _ aa na ma ta) ?_
  repeat' first
    | with_reducible refine cond_yes rfl ?_
    | with_reducible refine cond_no rfl ?_
    | (with_reducible refine cond_intro (fun h => ?_) (fun h => ?_)) <;> (try simp only [lim64, decide_eq_true_eq, decide_eq_false_iff_not, reduceCtorEq, Int.toNat_natCast, Bool.not_eq_true', Bool.not_eq_false', Bool.and_eq_true, Bool.or_eq_true, Bool.and_eq_false_iff, Bool.or_eq_false_iff, bne_iff_ne, beq_iff_eq, bne_eq_false_iff_eq, beq_eq_false_iff_ne, ne_eq] at h)
  all_goals first
    | with_reducible apply ret_k
    | omega
  repeat' first
    | with_reducible exact rns_nil
    | with_reducible refine rns_cons ?_ ?_
    | with_reducible refine rn_tup ?_
    | with_reducible refine rn_agg ?_
    | with_reducible refine rn_int ?_
    | with_reducible refine rn_tf ?_
    | with_reducible refine rn_bool_tf ?_
    | with_reducible refine rn_bool ?_
    | with_reducible refine rn_str ?_
    | with_reducible exact rn_nils
    | with_reducible refine rn_own_nils ?_
    | with_reducible refine rn_own ?_ ?_ ?_
    | with_reducible refine rn_own_sl ?_ ?_ ?_ ?_ ?_
    | with_reducible refine rn_own_loose ?_ ?_ ?_ ?_
    | with_reducible refine rn_loose ?_ ?_ ?_ ?_
    | with_reducible refine rn_loose_sl ?_ ?_ ?_ ?_
    | exact use_lo rfl
    | exact use_own rfl
    | exact nm_k rfl
    | exact nm_lo rfl
    | ((with_reducible refine (id : pos _ = pos _ → _) ?_); exact rfl)
    | ((with_reducible refine (id : pos _ = 0 → _) ?_); exact rfl)
    | ((with_reducible refine (id : Nat.ble _ _ = true → _) ?_); exact rfl)
    | ((with_reducible refine (id : injL _ _ = true → _) ?_); exact rfl)
    | ((with_reducible refine (id : plainC _ = true → _) ?_); exact rfl)
    | ((with_reducible refine (id : hget _ _ = some _ → _) ?_); exact rfl)
    | with_reducible exact (id : (_ : Bool) = true → _ = true)
    | with_reducible exact entl_nil
    | with_reducible refine entl_bor ?_ ?_ ?_ ?_
    | refine entl_new (use_own rfl) (by rfl) ?_ ?_ ?_
    | refine entl_rows (use_own rfl) (by rfl) rfl ?_ (nthc_all ?_) ?_
    | refine entl_zero (use_own rfl) (by rfl) (by simp) (by omega) ?_
    | with_reducible exact rcs_nil
    | with_reducible refine rcs_int (fun j hj => ?_) ?_
    | with_reducible refine rcs_bool (fun j hj => ?_) ?_
    | with_reducible refine rcs_str (fun j hj => ?_) ?_
    | refine entl_fresh (k := 2) (use_own rfl) (fresh_ok (n := 39) rfl) ?_
    | with_reducible rfl
  all_goals try exact (0 : Nat)
  all_goals try ((with_reducible refine (id : injL _ _ = true → _) ?_); exact rfl)
  all_goals first
    | omega
    | skip
theorem e45y (test : Bool → Prop → Prop → Prop) (Kst : List It → List PV → Heap → Nat → Prop) (Kret : PV → Heap → Nat → Prop) (aa na ma : Nat) (ta : Nat → Int) :
  (run test Tryd.env true noX true 300 ⟨45, [.cd (mkFn Tryd.f45).body], argT 0 [.zer false], [[], [(0, (false, .cols ma [.int .i64 ta]))]], 1⟩ (proj 1 [] Kst Kret)) =
  (Kret PV.nils [[(0, false, Blk.cols ma [Col.int IntKind.i64 ta])]] (1)) := by kernel_rfl
theorem c45y (aa na ma : Nat) (ta : NI) (hp : aa + na ≤ ma ∧ na ≤ 1000000) (h0 : na = 0) : CallR Tryd.prog 45 [.zer false] [[(0, (false, .cols ma [.int .i64 ta]))]] 1 (.own 2 1 na) [(2, (true, .cols na [.int .i64 (fun j => ta (j + aa))])) :: [(0, (false, .cols ma [.int .i64 ta]))]] 40 ∧ ∃ F, Tryd.prog.funcs[45]? = some F ∧ F.body.isSome = true ∧ (F.name == "runtime.NumGoroutine") = false := by
  refine @ret_eq _ _ Tryd.envOk Tryd.mixed _ noX_ok 45 (mkFn Tryd.f45) [.zer false] [[(0, (false, .cols ma [.int .i64 ta]))]] [(2, (true, .cols na [.int .i64 (fun j => ta (j + aa))])) :: [(0, (false, .cols ma [.int .i64 ta]))]] 1 40 (.own 2 1 na) true 300 rfl (by decide) (by simp) (names_of rfl) _ (e45y cond _ _ aa na ma ta) ?_
  repeat' first
    | with_reducible refine cond_yes rfl ?_
    | with_reducible refine cond_no rfl ?_
    | (with_reducible refine cond_intro (fun h => ?_) (fun h => ?_)) <;> (try simp only [lim64, decide_eq_true_eq, decide_eq_false_iff_not, reduceCtorEq, Int.toNat_natCast, Bool.not_eq_true', Bool.not_eq_false', Bool.and_eq_true, Bool.or_eq_true, Bool.and_eq_false_iff, Bool.or_eq_false_iff, bne_iff_ne, beq_iff_eq, bne_eq_false_iff_eq, beq_eq_false_iff_ne, ne_eq] at h)
  all_goals first
    | with_reducible apply ret_k
    | omega
  repeat' first
    | with_reducible exact rns_nil
    | with_reducible refine rns_cons ?_ ?_
    | with_reducible refine rn_tup ?_
    | with_reducible refine rn_agg ?_
    | with_reducible refine rn_int ?_
    | with_reducible refine rn_tf ?_
    | with_reducible refine rn_bool_tf ?_
    | with_reducible refine rn_bool ?_
    | with_reducible refine rn_str ?_
    | with_reducible exact rn_nils
    | with_reducible refine rn_own_nils ?_
    | with_reducible refine rn_own ?_ ?_ ?_
    | with_reducible refine rn_own_sl ?_ ?_ ?_ ?_ ?_
    | with_reducible refine rn_own_loose ?_ ?_ ?_ ?_
    | with_reducible refine rn_loose ?_ ?_ ?_ ?_
    | with_reducible refine rn_loose_sl ?_ ?_ ?_ ?_
    | exact use_lo rfl
    | exact use_own rfl
    | exact nm_k rfl
    | exact nm_lo rfl
    | ((with_reducible refine (id : pos _ = pos _ → _) ?_); exact rfl)
    | ((with_reducible refine (id : pos _ = 0 → _) ?_); exact rfl)
    | ((with_reducible refine (id : Nat.ble _ _ = true → _) ?_); exact rfl)
    | ((with_reducible refine (id : injL _ _ = true → _) ?_); exact rfl)
    | ((with_reducible refine (id : plainC _ = true → _) ?_); exact rfl)
    | ((with_reducible refine (id : hget _ _ = some _ → _) ?_); exact rfl)
    | with_reducible exact (id : (_ : Bool) = true → _ = true)
    | with_reducible exact entl_nil
    | with_reducible refine entl_bor ?_ ?_ ?_ ?_
    | refine entl_new (use_own rfl) (by rfl) ?_ ?_ ?_
    | refine entl_rows (use_own rfl) (by rfl) rfl ?_ (nthc_all ?_) ?_
    | refine entl_zero (use_own rfl) (by rfl) (by simp) (by omega) ?_
    | with_reducible exact rcs_nil
    | with_reducible refine rcs_int (fun j hj => ?_) ?_
    | with_reducible refine rcs_bool (fun j hj => ?_) ?_
    | with_reducible refine rcs_str (fun j hj => ?_) ?_
    | refine entl_fresh (k := 2) (use_own rfl) (fresh_ok (n := 39) rfl) ?_
    | with_reducible rfl
  all_goals try exact (0 : Nat)
  all_goals try ((with_reducible refine (id : injL _ _ = true → _) ?_); exact rfl)
  all_goals first
    | omega
    | skip
theorem c45 (aa na ma : Nat) (ta : NI) (hp : aa + na ≤ ma ∧ na ≤ 1000000) : CallR Tryd.prog 45 [.loose ⟨0, 1, aa, 0⟩ na] [[(0, (false, .cols ma [.int .i64 ta]))]] 1 (.own 2 1 na) [(2, (true, .cols na [.int .i64 (fun j => ta (j + aa))])) :: [(0, (false, .cols ma [.int .i64 ta]))]] 40 ∧ ∃ F, Tryd.prog.funcs[45]? = some F ∧ F.body.isSome = true ∧ (F.name == "runtime.NumGoroutine") = false :=
  ⟨loose_cases (fun h => (c45s aa na ma ta hp h).1) (fun h b => by cases b; exact (c45y aa na ma ta hp h).1; exact (c45z aa na ma ta hp h).1), by
    rcases Nat.eq_zero_or_pos na with h | h
    · exact (c45y aa na ma ta hp h).2
    · exact (c45s aa na ma ta hp h).2⟩
theorem k45_ok  : k45.ok Tryd.prog := by
  intro x hx
  obtain ⟨⟨aa, na, ma, ta, _⟩, _⟩ := x
  have hp : aa + na ≤ ma ∧ na ≤ 1000000 := of_decide_eq_true hx
  obtain ⟨h1, h2⟩ := c45 aa na ma ta hp
  exact ⟨⟨40, (by decide : 1 + 1 + 1 ≤ 40), h1⟩, h2⟩
namespace S
def sgB (ng : Bool) (v : Int) : Bool := ng && decide (0 < v)
end S
namespace S
def okI (ng : Bool) (n : Nat) (t : Nat → Int) : Bool := decide (n ≤ 80) && (okG n t && (decide (0 < n) || !ng))
end S
theorem okI_iff  {ng : Bool} {n : Nat} {t : Nat → Int} : S.okI ng n t = true ↔ n ≤ 80 ∧ S.okG n t = true ∧ (0 < n ∨ ng = false) := by
  unfold S.okI
  rw [Bool.and_eq_true, Bool.and_eq_true, Bool.or_eq_true, decide_eq_true_eq, decide_eq_true_eq, Bool.not_eq_true']
inductive St18 where
  | h0 (x0 : Int)
abbrev Rt18  := Bool
noncomputable def V18 (ng : Bool) (ap np mp : Nat) (tp : NI) (r : Rt18) : PV := PV.bool r
noncomputable def N18 (ng : Bool) (ap np mp : Nat) (tp : NI) (r : Rt18) : List Blk := []
noncomputable def I18 (ng : Bool) (ap np mp : Nat) (tp : NI) : St18 → Hd
  | .h0 x0 => ⟨hd Tryd.f18 0, [PV.ptr (PA.mk (1) (0) (0) (0)),
 PV.loose (PA.mk (0) (1) ap (0)) np, PV.int .i64 (↑np : Int),
 PV.int .i64 x0], [[(1, (true, Blk.cells [PV.bool ng, PV.loose (PA.mk (0) (1) ap (0)) np]))], [(0, (false, .cols mp [.int .i64 tp]))]], 2⟩
noncomputable def q18 (ng : Bool) (ap np mp : Nat) (tp : NI) : St18 → Option (St18 ⊕ Rt18) | .h0 x0 => bif (decide (x0 < (↑np : Int))) then (bif (decide ((0 : Int) ≤ x0 ∧ x0 < (↑np : Int))) then (bif (decide (Int.toNat x0 + ap < mp)) then (bif (decide (tp (Int.toNat x0 + ap) < 0)) then (some (.inr (false))) else (bif (decide (tp (Int.toNat x0 + ap) ≥ 1000000)) then (some (.inr (false))) else (bif (lim .i64 (x0 + 1)) then (some (.inl (.h0 (x0 + 1)))) else (none)))) else (none)) else (none)) else (bif ((↑np : Int) == 0) then (bif (ng) then (some (.inr (false))) else (some (.inr (true)))) else (bif (lim .i64 ((↑np : Int) - 1)) then (bif (decide ((0 : Int) ≤ (↑np : Int) - 1 ∧ (↑np : Int) - 1 < (↑np : Int))) then (bif (decide (Int.toNat ((↑np : Int) - 1) + ap < mp)) then (bif (tp (Int.toNat ((↑np : Int) - 1) + ap) != 0) then (some (.inr (true))) else (some (.inr (false)))) else (none)) else (none)) else (none)))
noncomputable def p18 (ng : Bool) (ap np mp : Nat) (tp : NI) : Option (St18 ⊕ Rt18) := bif (decide ((↑np : Int) > 80)) then (some (.inr (false))) else (some (.inl (.h0 ((0 : Int)))))
noncomputable def Te18 (test : TT) (Kst : KS) (Kret : KR) (ng : Bool) (ap np mp : Nat) (tp : NI) : Prop := test (decide ((↑np : Int) > 80)) (Kret (PV.tf false) ([[(0, false, Blk.cols mp [Col.int .i64 tp])]]) (2)) (Kst (hd Tryd.f18 0) ([PV.ptr (PA.mk (1) (0) (0) (0)), PV.loose (PA.mk (0) (1) ap (0)) np, PV.int .i64 (↑np : Int), PV.int .i64 (0 : Int)]) ([[(0, false, Blk.cols mp [Col.int .i64 tp]), (1, true, Blk.cells [PV.bool ng, PV.loose (PA.mk (0) (1) ap (0)) np])]]) (2))
theorem te18 (test : TT) (Kst : KS) (Kret : KR) (ng : Bool) (ap np mp : Nat) (tp : NI) : run test Tryd.env true noX true 400 ⟨18, [.cd (mkFn Tryd.f18).body], argT 0 [.agg [.bool ng, .loose ⟨0, 1, ap, 0⟩ np]], [[], [(0, (false, .cols mp [.int .i64 tp]))]], 1⟩ (proj 1 [1, 10, 11, 12] Kst Kret) =
  Te18 test Kst Kret ng ap np mp tp := by kernel_rfl
noncomputable def T18_0 (test : TT) (Kst : KS) (Kret : KR) (ng : Bool) (ap np mp : Nat) (tp : NI) (x0 : Int) : Prop := test (decide (x0 < (↑np : Int))) (test (decide ((0 : Int) ≤ x0 ∧ x0 < (↑np : Int))) (test (decide (Int.toNat x0 + ap < mp)) (test (decide (tp (Int.toNat x0 + ap) < 0)) (Kret (PV.tf false) ([[(0, false, Blk.cols mp [Col.int .i64 tp])]]) (2)) (test (decide (tp (Int.toNat x0 + ap) ≥ 1000000)) (Kret (PV.tf false) ([[(0, false, Blk.cols mp [Col.int .i64 tp])]]) (2)) (test (lim .i64 (x0 + 1)) (Kst (hd Tryd.f18 0) ([PV.ptr (PA.mk (1) (0) (0) (0)), PV.loose (PA.mk (0) (1) ap (0)) np, PV.int .i64 (↑np : Int), PV.int .i64 (x0 + 1)]) ([[(0, false, Blk.cols mp [Col.int .i64 tp]), (1, true, Blk.cells [PV.bool ng, PV.loose (PA.mk (0) (1) ap (0)) np])]]) (2)) (False)))) (False)) (False)) (test ((↑np : Int) == 0) (test (ng) (Kret (PV.tf false) ([[(0, false, Blk.cols mp [Col.int .i64 tp])]]) (2)) (Kret (PV.tf true) ([[(0, false, Blk.cols mp [Col.int .i64 tp])]]) (2))) (test (lim .i64 ((↑np : Int) - 1)) (test (decide ((0 : Int) ≤ (↑np : Int) - 1 ∧ (↑np : Int) - 1 < (↑np : Int))) (test (decide (Int.toNat ((↑np : Int) - 1) + ap < mp)) (test (tp (Int.toNat ((↑np : Int) - 1) + ap) != 0) (Kret (PV.tf true) ([[(0, false, Blk.cols mp [Col.int .i64 tp])]]) (2)) (Kret (PV.tf false) ([[(0, false, Blk.cols mp [Col.int .i64 tp])]]) (2))) (False)) (False)) (False)))
theorem t18_0 (test : TT) (Kst : KS) (Kret : KR) (ng : Bool) (ap np mp : Nat) (tp : NI) (x0 : Int) : run test Tryd.env true noX true 400 ⟨18, hd Tryd.f18 0, zipT [1, 10, 11, 12] [PV.ptr (PA.mk (1) (0) (0) (0)),
 PV.loose (PA.mk (0) (1) ap (0)) np, PV.int .i64 (↑np : Int),
 PV.int .i64 x0], [[(1, (true, Blk.cells [PV.bool ng, PV.loose (PA.mk (0) (1) ap (0)) np]))], [(0, (false, .cols mp [.int .i64 tp]))]], 2⟩ (proj 1 [1, 10, 11, 12] Kst Kret) =
  T18_0 test Kst Kret ng ap np mp tp x0 := by kernel_rfl
noncomputable abbrev J18 (ng : Bool) (ap np mp : Nat) (tp : NI) : Rt18 → Heap := fun r => [newL (1 + 1) ((N18 ng ap np mp tp) r) ++ [(0, (false, .cols mp [.int .i64 tp]))]]
attribute [local irreducible] Int.subNatNat in
theorem be18 (ng : Bool) (ap np mp : Nat) (tp : NI) (Kst : KS) (Kret : KR) (x : St18 ⊕ Rt18) (hS : HS 1 400 ((I18 ng ap np mp tp)) Kst x) (hR : HR 1 400 ((V18 ng ap np mp tp)) (J18 ng ap np mp tp) Kret x) (h : p18 ng ap np mp tp = some x) : Te18 cond Kst Kret ng ap np mp tp := by
  unfold Te18
  unfold p18 at h
  refine bif_split h (fun c0 h => ret_at hR _ h (fun n => n) rfl rfl rfl (rn_bool_tf rfl) rfl (entl_bor (use_lo rfl) rfl rfl entl_nil)) (fun c0 h => stop_at hS _ h (fun n => bif Nat.beq n 1 then 1 else n) rfl rfl rfl ⟨(rn_ptr (use_own rfl) rfl rfl), ⟨(rn_loose (use_lo rfl) rfl rfl rfl), ⟨(rn_int rfl), ⟨(rn_int rfl), trivial⟩⟩⟩⟩ rfl (entl_b (use_own rfl) rfl (by simp) (rb_cells ⟨(rn_bool rfl), (rn_loose (use_lo rfl) rfl rfl rfl), trivial⟩) (entl_bor (use_lo rfl) rfl rfl entl_nil)))
attribute [local irreducible] Int.subNatNat in
theorem b18_0 (ng : Bool) (ap np mp : Nat) (tp : NI) (Kst : KS) (Kret : KR) (x : St18 ⊕ Rt18) (hS : HS 1 400 ((I18 ng ap np mp tp)) Kst x) (hR : HR 1 400 ((V18 ng ap np mp tp)) (J18 ng ap np mp tp) Kret x) (x0 : Int) (h : q18 ng ap np mp tp (.h0 x0) = some x) : T18_0 cond Kst Kret ng ap np mp tp x0 := by
  unfold T18_0
  rw [q18] at h
  refine bif_split h (fun c0 h => bif_split h (fun c1 h => bif_split h (fun c2 h => bif_split h (fun c3 h => ?_) (fun c3 h => bif_split h (fun c4 h => ?_) (fun c4 h => bif_split h (fun c5 h => stop_at hS _ h (fun n => bif Nat.beq n 1 then 1 else n) rfl rfl rfl ⟨(rn_ptr (use_own rfl) rfl rfl), ⟨(rn_loose (use_lo rfl) rfl rfl rfl), ⟨(rn_int rfl), ⟨(rn_int rfl), trivial⟩⟩⟩⟩ rfl (entl_b (use_own rfl) rfl (by simp) (rb_cells ⟨(rn_bool rfl), (rn_loose (use_lo rfl) rfl rfl rfl), trivial⟩) (entl_bor (use_lo rfl) rfl rfl entl_nil))) (fun c5 h => ?_)))) (fun c2 h => ?_)) (fun c1 h => ?_)) (fun c0 h => bif_split h (fun c1 h => bif_split h (fun c2 h => ?_) (fun c2 h => ?_)) (fun c1 h => bif_split h (fun c2 h => bif_split h (fun c3 h => bif_split h (fun c4 h => bif_split h (fun c5 h => ?_) (fun c5 h => ?_)) (fun c4 h => ?_)) (fun c3 h => ?_)) (fun c2 h => ?_)))
  all_goals first
    | exact ret_at hR _ h (fun n => n) rfl rfl rfl (rn_bool_tf rfl) rfl (entl_bor (use_lo rfl) rfl rfl entl_nil)
    | exact no_some h
theorem a18 (ng : Bool) (ap np mp : Nat) (tp : NI) {r : Rt18} (h : Goes ((q18 ng ap np mp tp)) ((p18 ng ap np mp tp)) r) : CallR Tryd.prog 18 [.agg [.bool ng, .loose ⟨0, 1, ap, 0⟩ np]] [[(0, (false, .cols mp [.int .i64 tp]))]] 1 ((V18 ng ap np mp tp) r) ((J18 ng ap np mp tp) r) 400 ∧ ∃ F, Tryd.prog.funcs[18]? = some F ∧ F.body.isSome = true ∧ (F.name == "runtime.NumGoroutine") = false := by
  refine dec_calls (f := 18) (lo := 1) (hi := 400) Tryd.envOk Tryd.mixed noX_ok ((I18 ng ap np mp tp)) ((V18 ng ap np mp tp)) (J18 ng ap np mp tp) (fn := mkFn Tryd.f18) (ts := [1, 10, 11, 12]) (n := 400) rfl (by decide) (by simp) (names_of rfl) ?_ ?_ ?_ h
  · intro s; cases s <;> exact ⟨hd_ok _ _, by simp [I18], names_of rfl, Nat.le_of_ble_eq_true rfl⟩
  · intro Kst Kret x hS hR h
    exact Holds.eq (te18 cond Kst Kret ng ap np mp tp) (be18 ng ap np mp tp Kst Kret x hS hR h)
  · intro Kst Kret x hS hR s h
    cases s with
    | h0 x0 => exact Holds.eq (t18_0 cond Kst Kret ng ap np mp tp x0) (b18_0 ng ap np mp tp Kst Kret x hS hR x0 h)
noncomputable abbrev w18 {α : Type} (g : Bool → Nat → Nat → Nat → (Nat → Int) → α) (x : (Bool × (Nat × Nat × Nat × (Nat → Int) × Unit) × Unit) × Unit) : α := g x.1.1 x.1.2.1.1 x.1.2.1.2.1 x.1.2.1.2.2.1 x.1.2.1.2.2.2.1
noncomputable def k18  : Con := ⟨18, [.agg [.plain (.bool), .list [.int .i64]]], w18 (fun ng ap np mp tp => decide (ap + np ≤ mp ∧ np ≤ 1000000)), w18 (fun ng ap np mp tp => (V18 ng ap np mp tp) (S.okI ng np (fun j => tp (j + ap)))), w18 (fun ng ap np mp tp => (N18 ng ap np mp tp) (S.okI ng np (fun j => tp (j + ap)))), fun _ _ => .dead⟩
theorem s18' (ng : Bool) (ap np mp : Nat) (tp : Nat → Int) (hp : ap + np ≤ mp ∧ np ≤ 1000000) (hn : np ≤ 80)  : ∀ (k i : Nat), i + k = np → (∀ j, j < i → 0 ≤ tp (j + ap) ∧ tp (j + ap) < 1000000) → Comes (q18 ng ap np mp tp) (.h0 (i : Int)) (S.okI ng np (fun j => tp (j + ap))) := by
  obtain ⟨hp1, hp2⟩ := hp
  intro k
  induction k with
  | zero =>
    intro i hi hj
    obtain rfl : np = i := by omega
    have hG : S.okG np (fun j => tp (j + ap)) = true ↔ (np = 0 ∨ tp (np - 1 + ap) ≠ 0) := by
      rw [okG_iff]
      exact ⟨fun h => h.2, fun h => ⟨hj, h⟩⟩
    have hI := okI_iff (ng := ng) (n := np) (t := (fun j => tp (j + ap)))
    rw [hG] at hI
    have e1 : ((np : Int) - 1).toNat = np - 1 := by omega
    generalize S.okI ng np (fun j => tp (j + ap)) = R at *
    have hR : (np ≤ 80 ∧ (np = 0 ∨ tp (np - 1 + ap) ≠ 0) ∧ (0 < np ∨ ng = false)) → true = R := fun h => (hI.mpr h).symm
    have hR' : ¬ (np ≤ 80 ∧ (np = 0 ∨ tp (np - 1 + ap) ≠ 0) ∧ (0 < np ∨ ng = false)) → false = R := fun h => by cases R; rfl; exact absurd (hI.mp rfl) h
    cases ng
    · apply Comes.of
      show Goes _ _ _
      (first | rw [q18] | unfold q18)
      repeat' (first | with_reducible refine goes_if (fun h => ?_) (fun h => ?_) <;> (try simp only [SH, e1] at h) | exact goes_none.mpr (by omega))
      all_goals first
        | (exfalso; omega)
        | (refine goes_inr.mpr (hR ⟨by omega, by omega, ?_⟩); first | exact .inr rfl | (left; omega) | (left; rcases Nat.eq_zero_or_pos np with h | h <;> first | exact h | exact absurd (hl.1 h) (by decide)))
        | (refine goes_inr.mpr (hR' ?_); intro hx; first | (exact absurd hx.2.2 (by simp; omega)) | omega | (have h3 := hx.2.1; omega))
        | (exfalso; simp at *; done)
    · apply Comes.of
      show Goes _ _ _
      (first | rw [q18] | unfold q18)
      repeat' (first | with_reducible refine goes_if (fun h => ?_) (fun h => ?_) <;> (try simp only [SH, e1] at h) | exact goes_none.mpr (by omega))
      all_goals first
        | (exfalso; omega)
        | (refine goes_inr.mpr (hR ⟨by omega, by omega, ?_⟩); first | exact .inr rfl | (left; omega) | (left; rcases Nat.eq_zero_or_pos np with h | h <;> first | exact h | exact absurd (hl.1 h) (by decide)))
        | (refine goes_inr.mpr (hR' ?_); intro hx; first | (exact absurd hx.2.2 (by simp; omega)) | omega | (have h3 := hx.2.1; omega))
        | (exfalso; simp at *; done)
  | succ k ih =>
    intro i hi hj
    by_cases hc : 0 ≤ tp (i + ap) ∧ tp (i + ap) < 1000000
    · have ih := ih (i + 1) (by omega) (fun j hlt => by
        rcases Nat.lt_or_eq_of_le (Nat.le_of_lt_succ hlt) with h2 | h2
        · exact hj j h2
        · subst h2; exact hc)
      apply Comes.of
      show Goes _ _ _
      (first | rw [q18] | unfold q18)
      repeat' (first | with_reducible refine goes_if (fun h => ?_) (fun h => ?_) <;> (try simp only [SH] at h) | exact goes_none.mpr (by omega))
      all_goals first | (exfalso; omega) | exact ih
    · have hR : S.okI ng np (fun j => tp (j + ap)) = false := by
        rw [Bool.eq_false_iff]
        intro h
        exact hc ((okG_iff.mp (okI_iff.mp h).2.1).1 i (by omega))
      rw [hR]
      apply Comes.of
      show Goes _ _ _
      (first | rw [q18] | unfold q18)
      repeat' (first | with_reducible refine goes_if (fun h => ?_) (fun h => ?_) <;> (try simp only [SH] at h) | exact goes_none.mpr (by omega))
      all_goals first | (exfalso; omega) | exact goes_inr.mpr rfl
theorem s18 (ng : Bool) (ap np mp : Nat) (tp : Nat → Int) (hp : ap + np ≤ mp ∧ np ≤ 1000000) : Goes ((q18 ng ap np mp tp)) ((p18 ng ap np mp tp)) (S.okI ng np (fun j => tp (j + ap))) := by
  have hI := okI_iff (ng := ng) (n := np) (t := (fun j => tp (j + ap)))
  rw [okG_iff] at hI
  by_cases hn : np ≤ 80
  · skip
    have hm := s18' ng ap np mp tp hp hn np 0 (by omega) (fun j hj => absurd hj (Nat.not_lt_zero j))
    skip
    have hR' : ¬ ((np = 0 ∨ tp (np - 1 + ap) ≠ 0) ∧ (0 < np ∨ ng = false)) → false = S.okI ng np (fun j => tp (j + ap)) := fun h => by
      cases hx : S.okI ng np (fun j => tp (j + ap))
      · rfl
      · exact absurd ⟨(hI.mp hx).2.1.2, (hI.mp hx).2.2⟩ h
    have e1 : ((np : Int) - 1).toNat = np - 1 := by omega
    generalize S.okI ng np (fun j => tp (j + ap)) = R at *
    obtain ⟨hp1, hp2⟩ := hp
    cases ng
    · skip
      show Goes _ _ _
      unfold p18
      repeat' (first | with_reducible refine goes_if (fun h => ?_) (fun h => ?_) <;> (try simp only [SH, e1] at h) | exact goes_none.mpr (by omega))
      all_goals first
        | (exfalso; omega)
        | exact hm
        | exact hm ⟨fun _ => rfl, fun h => by omega⟩
        | (refine goes_inr.mpr (hR' ?_); intro hx; first | (exact absurd hx.2 (by simp; omega)) | omega | (have h3 := hx.1; omega))
        | (exfalso; simp at *; done)
    · skip
      show Goes _ _ _
      unfold p18
      repeat' (first | with_reducible refine goes_if (fun h => ?_) (fun h => ?_) <;> (try simp only [SH, e1] at h) | exact goes_none.mpr (by omega))
      all_goals first
        | (exfalso; omega)
        | exact hm
        | exact hm ⟨fun h => by omega, fun h => by omega⟩
        | (refine goes_inr.mpr (hR' ?_); intro hx; first | (exact absurd hx.2 (by simp; omega)) | omega | (have h3 := hx.1; omega))
        | (exfalso; simp at *; done)
  · have hR : S.okI ng np (fun j => tp (j + ap)) = false := by
      rw [Bool.eq_false_iff]
      intro h
      exact hn (hI.mp h).1
    rw [hR]
    show Goes _ _ _
    unfold p18
    repeat' (first | with_reducible refine goes_if (fun h => ?_) (fun h => ?_) <;> (try simp only [SH] at h) | exact goes_none.mpr (by omega))
    all_goals first | (exfalso; omega) | exact goes_inr.mpr rfl
theorem k18_ok  : k18.ok Tryd.prog := by
  intro x hx
  obtain ⟨⟨ng, ⟨ap, np, mp, tp, _⟩, _⟩, _⟩ := x
  obtain ⟨h1, h2⟩ := a18 ng ap np mp tp (s18 ng ap np mp tp (of_dec hx rfl))
  exact ⟨⟨400, (by decide : 1 + 1 + 0 ≤ 400), h1⟩, h2⟩
inductive St19 where
  | h0 (x0 : Int)
abbrev Rt19  := Bool
noncomputable def V19 (ng : Bool) (ap np mp : Nat) (tp : NI) (r : Rt19) : PV := PV.bool r
noncomputable def N19 (ng : Bool) (ap np mp : Nat) (tp : NI) (r : Rt19) : List Blk := []
noncomputable def I19 (ng : Bool) (ap np mp : Nat) (tp : NI) : St19 → Hd
  | .h0 x0 => ⟨hd Tryd.f19 0, [PV.ptr (PA.mk (1) (0) (0) (0)), PV.int .i64 (↑np : Int),
 PV.int .i64 x0], [[(1, (true, Blk.cells [PV.bool ng, PV.loose (PA.mk (0) (1) ap (0)) np]))], [(0, (false, .cols mp [.int .i64 tp]))]], 2⟩
noncomputable def q19 (ng : Bool) (ap np mp : Nat) (tp : NI) : St19 → Option (St19 ⊕ Rt19) | .h0 x0 => bif (decide (x0 < (↑np : Int))) then (bif (decide ((0 : Int) ≤ x0 ∧ x0 < (↑np : Int))) then (bif (decide (Int.toNat x0 + ap < mp)) then (bif (decide (tp (Int.toNat x0 + ap) < 0)) then (some (.inr (false))) else (bif (decide (tp (Int.toNat x0 + ap) ≥ 1000000)) then (some (.inr (false))) else (bif (lim .i64 (x0 + 1)) then (some (.inl (.h0 (x0 + 1)))) else (none)))) else (none)) else (none)) else (some (.inr (true)))
noncomputable def p19 (ng : Bool) (ap np mp : Nat) (tp : NI) : Option (St19 ⊕ Rt19) := bif (decide ((↑np : Int) > 80)) then (some (.inr (false))) else (bif ((↑np : Int) == 0) then (bif (ng) then (some (.inr (false))) else (bif (decide ((↑np : Int) > 0)) then (bif (lim .i64 ((↑np : Int) - 1)) then (bif (decide ((0 : Int) ≤ (↑np : Int) - 1 ∧ (↑np : Int) - 1 < (↑np : Int))) then (bif (decide (Int.toNat ((↑np : Int) - 1) + ap < mp)) then (bif (tp (Int.toNat ((↑np : Int) - 1) + ap) == 0) then (some (.inr (false))) else (some (.inl (.h0 ((0 : Int)))))) else (none)) else (none)) else (none)) else (some (.inl (.h0 ((0 : Int))))))) else (bif (decide ((↑np : Int) > 0)) then (bif (lim .i64 ((↑np : Int) - 1)) then (bif (decide ((0 : Int) ≤ (↑np : Int) - 1 ∧ (↑np : Int) - 1 < (↑np : Int))) then (bif (decide (Int.toNat ((↑np : Int) - 1) + ap < mp)) then (bif (tp (Int.toNat ((↑np : Int) - 1) + ap) == 0) then (some (.inr (false))) else (some (.inl (.h0 ((0 : Int)))))) else (none)) else (none)) else (none)) else (some (.inl (.h0 ((0 : Int)))))))
noncomputable def Te19 (test : TT) (Kst : KS) (Kret : KR) (ng : Bool) (ap np mp : Nat) (tp : NI) : Prop := test (decide ((↑np : Int) > 80)) (Kret (PV.tf false) ([[(0, false, Blk.cols mp [Col.int .i64 tp])]]) (2)) (test ((↑np : Int) == 0) (test (ng) (Kret (PV.tf false) ([[(0, false, Blk.cols mp [Col.int .i64 tp])]]) (2)) (test (decide ((↑np : Int) > 0)) (test (lim .i64 ((↑np : Int) - 1)) (test (decide ((0 : Int) ≤ (↑np : Int) - 1 ∧ (↑np : Int) - 1 < (↑np : Int))) (test (decide (Int.toNat ((↑np : Int) - 1) + ap < mp)) (test (tp (Int.toNat ((↑np : Int) - 1) + ap) == 0) (Kret (PV.tf false) ([[(0, false, Blk.cols mp [Col.int .i64 tp])]]) (2)) (Kst (hd Tryd.f19 0) ([PV.ptr (PA.mk (1) (0) (0) (0)), PV.int .i64 (↑np : Int), PV.int .i64 (0 : Int)]) ([[(0, false, Blk.cols mp [Col.int .i64 tp]), (1, true, Blk.cells [PV.bool ng, PV.loose (PA.mk (0) (1) ap (0)) np])]]) (2))) (False)) (False)) (False)) (Kst (hd Tryd.f19 0) ([PV.ptr (PA.mk (1) (0) (0) (0)), PV.int .i64 (↑np : Int), PV.int .i64 (0 : Int)]) ([[(0, false, Blk.cols mp [Col.int .i64 tp]), (1, true, Blk.cells [PV.bool ng, PV.loose (PA.mk (0) (1) ap (0)) np])]]) (2)))) (test (decide ((↑np : Int) > 0)) (test (lim .i64 ((↑np : Int) - 1)) (test (decide ((0 : Int) ≤ (↑np : Int) - 1 ∧ (↑np : Int) - 1 < (↑np : Int))) (test (decide (Int.toNat ((↑np : Int) - 1) + ap < mp)) (test (tp (Int.toNat ((↑np : Int) - 1) + ap) == 0) (Kret (PV.tf false) ([[(0, false, Blk.cols mp [Col.int .i64 tp])]]) (2)) (Kst (hd Tryd.f19 0) ([PV.ptr (PA.mk (1) (0) (0) (0)), PV.int .i64 (↑np : Int), PV.int .i64 (0 : Int)]) ([[(0, false, Blk.cols mp [Col.int .i64 tp]), (1, true, Blk.cells [PV.bool ng, PV.loose (PA.mk (0) (1) ap (0)) np])]]) (2))) (False)) (False)) (False)) (Kst (hd Tryd.f19 0) ([PV.ptr (PA.mk (1) (0) (0) (0)), PV.int .i64 (↑np : Int), PV.int .i64 (0 : Int)]) ([[(0, false, Blk.cols mp [Col.int .i64 tp]), (1, true, Blk.cells [PV.bool ng, PV.loose (PA.mk (0) (1) ap (0)) np])]]) (2))))
theorem te19 (test : TT) (Kst : KS) (Kret : KR) (ng : Bool) (ap np mp : Nat) (tp : NI) : run test Tryd.env true noX true 400 ⟨19, [.cd (mkFn Tryd.f19).body], argT 0 [.agg [.bool ng, .loose ⟨0, 1, ap, 0⟩ np]], [[], [(0, (false, .cols mp [.int .i64 tp]))]], 1⟩ (proj 1 [1, 3, 4] Kst Kret) =
  Te19 test Kst Kret ng ap np mp tp := by kernel_rfl
noncomputable def T19_0 (test : TT) (Kst : KS) (Kret : KR) (ng : Bool) (ap np mp : Nat) (tp : NI) (x0 : Int) : Prop := test (decide (x0 < (↑np : Int))) (test (decide ((0 : Int) ≤ x0 ∧ x0 < (↑np : Int))) (test (decide (Int.toNat x0 + ap < mp)) (test (decide (tp (Int.toNat x0 + ap) < 0)) (Kret (PV.tf false) ([[(0, false, Blk.cols mp [Col.int .i64 tp])]]) (2)) (test (decide ((0 : Int) ≤ x0 ∧ x0 < (↑np : Int))) (test (decide (Int.toNat x0 + ap < mp)) (test (decide (tp (Int.toNat x0 + ap) ≥ 1000000)) (Kret (PV.tf false) ([[(0, false, Blk.cols mp [Col.int .i64 tp])]]) (2)) (test (lim .i64 (x0 + 1)) (Kst (hd Tryd.f19 0) ([PV.ptr (PA.mk (1) (0) (0) (0)), PV.int .i64 (↑np : Int), PV.int .i64 (x0 + 1)]) ([[(0, false, Blk.cols mp [Col.int .i64 tp]), (1, true, Blk.cells [PV.bool ng, PV.loose (PA.mk (0) (1) ap (0)) np])]]) (2)) (False))) (False)) (False))) (False)) (False)) (Kret (PV.tf true) ([[(0, false, Blk.cols mp [Col.int .i64 tp])]]) (2))
theorem t19_0 (test : TT) (Kst : KS) (Kret : KR) (ng : Bool) (ap np mp : Nat) (tp : NI) (x0 : Int) : run test Tryd.env true noX true 400 ⟨19, hd Tryd.f19 0, zipT [1, 3, 4] [PV.ptr (PA.mk (1) (0) (0) (0)), PV.int .i64 (↑np : Int),
 PV.int .i64 x0], [[(1, (true, Blk.cells [PV.bool ng, PV.loose (PA.mk (0) (1) ap (0)) np]))], [(0, (false, .cols mp [.int .i64 tp]))]], 2⟩ (proj 1 [1, 3, 4] Kst Kret) =
  T19_0 test Kst Kret ng ap np mp tp x0 := by kernel_rfl
noncomputable abbrev J19 (ng : Bool) (ap np mp : Nat) (tp : NI) : Rt19 → Heap := fun r => [newL (1 + 1) ((N19 ng ap np mp tp) r) ++ [(0, (false, .cols mp [.int .i64 tp]))]]
attribute [local irreducible] Int.subNatNat in
theorem be19 (ng : Bool) (ap np mp : Nat) (tp : NI) (Kst : KS) (Kret : KR) (x : St19 ⊕ Rt19) (hS : HS 1 400 ((I19 ng ap np mp tp)) Kst x) (hR : HR 1 400 ((V19 ng ap np mp tp)) (J19 ng ap np mp tp) Kret x) (h : p19 ng ap np mp tp = some x) : Te19 cond Kst Kret ng ap np mp tp := by
  unfold Te19
  unfold p19 at h
  refine bif_split h (fun c0 h => ?_) (fun c0 h => bif_split h (fun c1 h => bif_split h (fun c2 h => ?_) (fun c2 h => bif_split h (fun c3 h => bif_split h (fun c4 h => bif_split h (fun c5 h => bif_split h (fun c6 h => bif_split h (fun c7 h => ?_) (fun c7 h => ?_)) (fun c6 h => ?_)) (fun c5 h => ?_)) (fun c4 h => ?_)) (fun c3 h => ?_))) (fun c1 h => bif_split h (fun c2 h => bif_split h (fun c3 h => bif_split h (fun c4 h => bif_split h (fun c5 h => bif_split h (fun c6 h => ?_) (fun c6 h => ?_)) (fun c5 h => ?_)) (fun c4 h => ?_)) (fun c3 h => ?_)) (fun c2 h => ?_)))
  all_goals first
    | exact no_some h
    | exact ret_at hR _ h (fun n => n) rfl rfl rfl (rn_bool_tf rfl) rfl (entl_bor (use_lo rfl) rfl rfl entl_nil)
    | exact stop_at hS _ h (fun n => bif Nat.beq n 1 then 1 else n) rfl rfl rfl ⟨(rn_ptr (use_own rfl) rfl rfl), ⟨(rn_int rfl), ⟨(rn_int rfl), trivial⟩⟩⟩ rfl (entl_b (use_own rfl) rfl (by simp) (rb_cells ⟨(rn_bool rfl), (rn_loose (use_lo rfl) rfl rfl rfl), trivial⟩) (entl_bor (use_lo rfl) rfl rfl entl_nil))
attribute [local irreducible] Int.subNatNat in
theorem b19_0 (ng : Bool) (ap np mp : Nat) (tp : NI) (Kst : KS) (Kret : KR) (x : St19 ⊕ Rt19) (hS : HS 1 400 ((I19 ng ap np mp tp)) Kst x) (hR : HR 1 400 ((V19 ng ap np mp tp)) (J19 ng ap np mp tp) Kret x) (x0 : Int) (h : q19 ng ap np mp tp (.h0 x0) = some x) : T19_0 cond Kst Kret ng ap np mp tp x0 := by
  unfold T19_0
  rw [q19] at h
  exact bif_split h (fun c0 h => bif_split h (fun c1 h => bif_split h (fun c2 h => bif_split h (fun c3 h => ret_at hR _ h (fun n => n) rfl rfl rfl (rn_bool_tf rfl) rfl (entl_bor (use_lo rfl) rfl rfl entl_nil)) (fun c3 h => cond_yes c1 (cond_yes c2 (bif_split h (fun c4 h => ret_at hR _ h (fun n => n) rfl rfl rfl (rn_bool_tf rfl) rfl (entl_bor (use_lo rfl) rfl rfl entl_nil)) (fun c4 h => bif_split h (fun c5 h => stop_at hS _ h (fun n => bif Nat.beq n 1 then 1 else n) rfl rfl rfl ⟨(rn_ptr (use_own rfl) rfl rfl), ⟨(rn_int rfl), ⟨(rn_int rfl), trivial⟩⟩⟩ rfl (entl_b (use_own rfl) rfl (by simp) (rb_cells ⟨(rn_bool rfl), (rn_loose (use_lo rfl) rfl rfl rfl), trivial⟩) (entl_bor (use_lo rfl) rfl rfl entl_nil))) (fun c5 h => no_some h)))))) (fun c2 h => no_some h)) (fun c1 h => no_some h)) (fun c0 h => ret_at hR _ h (fun n => n) rfl rfl rfl (rn_bool_tf rfl) rfl (entl_bor (use_lo rfl) rfl rfl entl_nil))
theorem a19 (ng : Bool) (ap np mp : Nat) (tp : NI) {r : Rt19} (h : Goes ((q19 ng ap np mp tp)) ((p19 ng ap np mp tp)) r) : CallR Tryd.prog 19 [.agg [.bool ng, .loose ⟨0, 1, ap, 0⟩ np]] [[(0, (false, .cols mp [.int .i64 tp]))]] 1 ((V19 ng ap np mp tp) r) ((J19 ng ap np mp tp) r) 400 ∧ ∃ F, Tryd.prog.funcs[19]? = some F ∧ F.body.isSome = true ∧ (F.name == "runtime.NumGoroutine") = false := by
  refine dec_calls (f := 19) (lo := 1) (hi := 400) Tryd.envOk Tryd.mixed noX_ok ((I19 ng ap np mp tp)) ((V19 ng ap np mp tp)) (J19 ng ap np mp tp) (fn := mkFn Tryd.f19) (ts := [1, 3, 4]) (n := 400) rfl (by decide) (by simp) (names_of rfl) ?_ ?_ ?_ h
  · intro s; cases s <;> exact ⟨hd_ok _ _, by simp [I19], names_of rfl, Nat.le_of_ble_eq_true rfl⟩
  · intro Kst Kret x hS hR h
    exact Holds.eq (te19 cond Kst Kret ng ap np mp tp) (be19 ng ap np mp tp Kst Kret x hS hR h)
  · intro Kst Kret x hS hR s h
    cases s with
    | h0 x0 => exact Holds.eq (t19_0 cond Kst Kret ng ap np mp tp x0) (b19_0 ng ap np mp tp Kst Kret x hS hR x0 h)
noncomputable abbrev w19 {α : Type} (g : Bool → Nat → Nat → Nat → (Nat → Int) → α) (x : (Bool × (Nat × Nat × Nat × (Nat → Int) × Unit) × Unit) × Unit) : α := g x.1.1 x.1.2.1.1 x.1.2.1.2.1 x.1.2.1.2.2.1 x.1.2.1.2.2.2.1
noncomputable def k19  : Con := ⟨19, [.agg [.plain (.bool), .list [.int .i64]]], w19 (fun ng ap np mp tp => decide (ap + np ≤ mp ∧ np ≤ 1000000)), w19 (fun ng ap np mp tp => (V19 ng ap np mp tp) (S.okI ng np (fun j => tp (j + ap)))), w19 (fun ng ap np mp tp => (N19 ng ap np mp tp) (S.okI ng np (fun j => tp (j + ap)))), fun _ _ => .dead⟩
theorem s19' (ng : Bool) (ap np mp : Nat) (tp : Nat → Int) (hp : ap + np ≤ mp ∧ np ≤ 1000000) (hn : np ≤ 80) (hl : (np = 0 → ng = false) ∧ (0 < np → tp (np - 1 + ap) ≠ 0)) : ∀ (k i : Nat), i + k = np → (∀ j, j < i → 0 ≤ tp (j + ap) ∧ tp (j + ap) < 1000000) → Comes (q19 ng ap np mp tp) (.h0 (i : Int)) (S.okI ng np (fun j => tp (j + ap))) := by
  obtain ⟨hp1, hp2⟩ := hp
  intro k
  induction k with
  | zero =>
    intro i hi hj
    obtain rfl : np = i := by omega
    have hG : S.okG np (fun j => tp (j + ap)) = true ↔ (np = 0 ∨ tp (np - 1 + ap) ≠ 0) := by
      rw [okG_iff]
      exact ⟨fun h => h.2, fun h => ⟨hj, h⟩⟩
    have hI := okI_iff (ng := ng) (n := np) (t := (fun j => tp (j + ap)))
    rw [hG] at hI
    have e1 : ((np : Int) - 1).toNat = np - 1 := by omega
    generalize S.okI ng np (fun j => tp (j + ap)) = R at *
    have hR : (np ≤ 80 ∧ (np = 0 ∨ tp (np - 1 + ap) ≠ 0) ∧ (0 < np ∨ ng = false)) → true = R := fun h => (hI.mpr h).symm
    have hR' : ¬ (np ≤ 80 ∧ (np = 0 ∨ tp (np - 1 + ap) ≠ 0) ∧ (0 < np ∨ ng = false)) → false = R := fun h => by cases R; rfl; exact absurd (hI.mp rfl) h
    cases ng
    · apply Comes.of
      show Goes _ _ _
      (first | rw [q19] | unfold q19)
      repeat' (first | with_reducible refine goes_if (fun h => ?_) (fun h => ?_) <;> (try simp only [SH, e1] at h) | exact goes_none.mpr (by omega))
      all_goals first
        | (exfalso; omega)
        | (refine goes_inr.mpr (hR ⟨by omega, by omega, ?_⟩); first | exact .inr rfl | (left; omega) | (left; rcases Nat.eq_zero_or_pos np with h | h <;> first | exact h | exact absurd (hl.1 h) (by decide)))
        | (refine goes_inr.mpr (hR' ?_); intro hx; first | (exact absurd hx.2.2 (by simp; omega)) | omega | (have h3 := hx.2.1; omega))
        | (exfalso; simp at *; done)
    · apply Comes.of
      show Goes _ _ _
      (first | rw [q19] | unfold q19)
      repeat' (first | with_reducible refine goes_if (fun h => ?_) (fun h => ?_) <;> (try simp only [SH, e1] at h) | exact goes_none.mpr (by omega))
      all_goals first
        | (exfalso; omega)
        | (refine goes_inr.mpr (hR ⟨by omega, by omega, ?_⟩); first | exact .inr rfl | (left; omega) | (left; rcases Nat.eq_zero_or_pos np with h | h <;> first | exact h | exact absurd (hl.1 h) (by decide)))
        | (refine goes_inr.mpr (hR' ?_); intro hx; first | (exact absurd hx.2.2 (by simp; omega)) | omega | (have h3 := hx.2.1; omega))
        | (exfalso; simp at *; done)
  | succ k ih =>
    intro i hi hj
    by_cases hc : 0 ≤ tp (i + ap) ∧ tp (i + ap) < 1000000
    · have ih := ih (i + 1) (by omega) (fun j hlt => by
        rcases Nat.lt_or_eq_of_le (Nat.le_of_lt_succ hlt) with h2 | h2
        · exact hj j h2
        · subst h2; exact hc)
      apply Comes.of
      show Goes _ _ _
      (first | rw [q19] | unfold q19)
      repeat' (first | with_reducible refine goes_if (fun h => ?_) (fun h => ?_) <;> (try simp only [SH] at h) | exact goes_none.mpr (by omega))
      all_goals first | (exfalso; omega) | exact ih
    · have hR : S.okI ng np (fun j => tp (j + ap)) = false := by
        rw [Bool.eq_false_iff]
        intro h
        exact hc ((okG_iff.mp (okI_iff.mp h).2.1).1 i (by omega))
      rw [hR]
      apply Comes.of
      show Goes _ _ _
      (first | rw [q19] | unfold q19)
      repeat' (first | with_reducible refine goes_if (fun h => ?_) (fun h => ?_) <;> (try simp only [SH] at h) | exact goes_none.mpr (by omega))
      all_goals first | (exfalso; omega) | exact goes_inr.mpr rfl
theorem s19 (ng : Bool) (ap np mp : Nat) (tp : Nat → Int) (hp : ap + np ≤ mp ∧ np ≤ 1000000) : Goes ((q19 ng ap np mp tp)) ((p19 ng ap np mp tp)) (S.okI ng np (fun j => tp (j + ap))) := by
  have hI := okI_iff (ng := ng) (n := np) (t := (fun j => tp (j + ap)))
  rw [okG_iff] at hI
  by_cases hn : np ≤ 80
  · skip
    skip
    have hm := fun hl => s19' ng ap np mp tp hp hn hl np 0 (by omega) (fun j hj => absurd hj (Nat.not_lt_zero j))
    have hR' : ¬ ((np = 0 ∨ tp (np - 1 + ap) ≠ 0) ∧ (0 < np ∨ ng = false)) → false = S.okI ng np (fun j => tp (j + ap)) := fun h => by
      cases hx : S.okI ng np (fun j => tp (j + ap))
      · rfl
      · exact absurd ⟨(hI.mp hx).2.1.2, (hI.mp hx).2.2⟩ h
    have e1 : ((np : Int) - 1).toNat = np - 1 := by omega
    generalize S.okI ng np (fun j => tp (j + ap)) = R at *
    obtain ⟨hp1, hp2⟩ := hp
    cases ng
    · skip
      show Goes _ _ _
      unfold p19
      repeat' (first | with_reducible refine goes_if (fun h => ?_) (fun h => ?_) <;> (try simp only [SH, e1] at h) | exact goes_none.mpr (by omega))
      all_goals first
        | (exfalso; omega)
        | exact hm
        | exact hm ⟨fun _ => rfl, fun h => by omega⟩
        | (refine goes_inr.mpr (hR' ?_); intro hx; first | (exact absurd hx.2 (by simp; omega)) | omega | (have h3 := hx.1; omega))
        | (exfalso; simp at *; done)
    · skip
      show Goes _ _ _
      unfold p19
      repeat' (first | with_reducible refine goes_if (fun h => ?_) (fun h => ?_) <;> (try simp only [SH, e1] at h) | exact goes_none.mpr (by omega))
      all_goals first
        | (exfalso; omega)
        | exact hm
        | exact hm ⟨fun h => by omega, fun h => by omega⟩
        | (refine goes_inr.mpr (hR' ?_); intro hx; first | (exact absurd hx.2 (by simp; omega)) | omega | (have h3 := hx.1; omega))
        | (exfalso; simp at *; done)
  · have hR : S.okI ng np (fun j => tp (j + ap)) = false := by
      rw [Bool.eq_false_iff]
      intro h
      exact hn (hI.mp h).1
    rw [hR]
    show Goes _ _ _
    unfold p19
    repeat' (first | with_reducible refine goes_if (fun h => ?_) (fun h => ?_) <;> (try simp only [SH] at h) | exact goes_none.mpr (by omega))
    all_goals first | (exfalso; omega) | exact goes_inr.mpr rfl
theorem k19_ok  : k19.ok Tryd.prog := by
  intro x hx
  obtain ⟨⟨ng, ⟨ap, np, mp, tp, _⟩, _⟩, _⟩ := x
  obtain ⟨h1, h2⟩ := a19 ng ap np mp tp (s19 ng ap np mp tp (of_dec hx rfl))
  exact ⟨⟨400, (by decide : 1 + 1 + 0 ≤ 400), h1⟩, h2⟩
theorem len_zero  {v : Int} : ((S.grp v).length = 0) ↔ v ≤ 0 := by
  constructor
  · intro h
    refine Int.not_lt.mp fun h2 => ?_
    have := len_pos h2
    omega
  · intro h
    rw [grp_neg h]; rfl
theorem valF_lt  {t : Nat → Int} : ∀ {k i : Nat}, (∀ j, i ≤ j → j < i + k → 0 ≤ t j ∧ t j < 1000000) → S.valF t i k < S.pw k
  | 0, _, _ => by show (0 : Int) < 1; omega
  | k + 1, i, h => by
    have h0 := h i (Nat.le_refl _) (by omega)
    have h1 := valF_lt (t := t) (k := k) (i := i + 1) fun j h1 h2 => h j (by omega) (by omega)
    simp only [S.valF, S.pw]
    omega
theorem pw_pos  : ∀ {k : Nat}, 0 < S.pw k
  | 0 => by show (0 : Int) < 1; omega
  | k + 1 => by have := pw_pos (k := k); simp only [S.pw]; omega
theorem pw_mono  {k m : Nat} (h : k ≤ m) : S.pw k ≤ S.pw m := by
  induction m with
  | zero => rw [show k = 0 by omega]; exact Int.le_refl _
  | succ m ih =>
    rcases Nat.lt_or_eq_of_le h with h2 | h2
    · have := ih (by omega)
      have := pw_pos (k := m)
      simp only [S.pw]
      omega
    · rw [h2]; exact Int.le_refl _
theorem val_lt  {n m : Nat} {t : Nat → Int} (h : S.okD n t = true) (hm : n ≤ m) : S.val n t < S.pw m := Int.lt_of_lt_of_le (valF_lt fun j _ hj => okD_iff.mp h j (by omega)) (pw_mono hm)
inductive St42 where
  | h0 (x0 : Int)
abbrev Rt42  := Bool
noncomputable def V42 (aa na ma : Nat) (ta : NI) (ab nb mb : Nat) (tb : NI) (r : Rt42) : PV := PV.bool r
noncomputable def N42 (aa na ma : Nat) (ta : NI) (ab nb mb : Nat) (tb : NI) (r : Rt42) : List Blk := []
noncomputable def I42 (aa na ma : Nat) (ta : NI) (ab nb mb : Nat) (tb : NI) : St42 → Hd
  | .h0 x0 => ⟨hd Tryd.f42 0, [PV.loose (PA.mk (0) (1) aa (0)) na,
 PV.loose (PA.mk (1) (1) ab (0)) nb, PV.int .i64 (↑na : Int),
 PV.int .i64 x0], [[], [(0, (false, .cols ma [.int .i64 ta])), (1, (false, .cols mb [.int .i64 tb]))]], 2⟩
noncomputable def q42 (aa na ma : Nat) (ta : NI) (ab nb mb : Nat) (tb : NI) : St42 → Option (St42 ⊕ Rt42) | .h0 x0 => bif (decide (x0 < (↑na : Int))) then (bif (decide ((0 : Int) ≤ x0 ∧ x0 < (↑na : Int))) then (bif (decide (Int.toNat x0 + aa < ma)) then (bif (decide ((0 : Int) ≤ x0 ∧ x0 < (↑nb : Int))) then (bif (decide (Int.toNat x0 + ab < mb)) then (bif (ta (Int.toNat x0 + aa) != tb (Int.toNat x0 + ab)) then (some (.inr (false))) else (bif (lim .i64 (x0 + 1)) then (some (.inl (.h0 (x0 + 1)))) else (none))) else (none)) else (none)) else (none)) else (none)) else (some (.inr (true)))
noncomputable def p42 (aa na ma : Nat) (ta : NI) (ab nb mb : Nat) (tb : NI) : Option (St42 ⊕ Rt42) := bif ((↑na : Int) != (↑nb : Int)) then (some (.inr (false))) else (some (.inl (.h0 ((0 : Int)))))
noncomputable def Te42 (test : TT) (Kst : KS) (Kret : KR) (aa na ma : Nat) (ta : NI) (ab nb mb : Nat) (tb : NI) : Prop := test ((↑na : Int) != (↑nb : Int)) (Kret (PV.tf false) ([[(1, false, Blk.cols mb [Col.int .i64 tb]), (0, false, Blk.cols ma [Col.int .i64 ta])]]) (2)) (Kst (hd Tryd.f42 0) ([PV.loose (PA.mk (0) (1) aa (0)) na, PV.loose (PA.mk (1) (1) ab (0)) nb, PV.int .i64 (↑na : Int), PV.int .i64 (0 : Int)]) ([[(1, false, Blk.cols mb [Col.int .i64 tb]), (0, false, Blk.cols ma [Col.int .i64 ta])]]) (2))
theorem te42 (test : TT) (Kst : KS) (Kret : KR) (aa na ma : Nat) (ta : NI) (ab nb mb : Nat) (tb : NI) : run test Tryd.env true noX true 400 ⟨42, [.cd (mkFn Tryd.f42).body], argT 0 [.loose ⟨0, 1, aa, 0⟩ na, .loose ⟨1, 1, ab, 0⟩ nb], [[], [(0, (false, .cols ma [.int .i64 ta])), (1, (false, .cols mb [.int .i64 tb]))]], 2⟩ (proj 2 [0, 1, 12, 13] Kst Kret) =
  Te42 test Kst Kret aa na ma ta ab nb mb tb := by kernel_rfl
noncomputable def T42_0 (test : TT) (Kst : KS) (Kret : KR) (aa na ma : Nat) (ta : NI) (ab nb mb : Nat) (tb : NI) (x0 : Int) : Prop := test (decide (x0 < (↑na : Int))) (test (decide ((0 : Int) ≤ x0 ∧ x0 < (↑na : Int))) (test (decide (Int.toNat x0 + aa < ma)) (test (decide ((0 : Int) ≤ x0 ∧ x0 < (↑nb : Int))) (test (decide (Int.toNat x0 + ab < mb)) (test (ta (Int.toNat x0 + aa) != tb (Int.toNat x0 + ab)) (Kret (PV.tf false) ([[(1, false, Blk.cols mb [Col.int .i64 tb]), (0, false, Blk.cols ma [Col.int .i64 ta])]]) (2)) (test (lim .i64 (x0 + 1)) (Kst (hd Tryd.f42 0) ([PV.loose (PA.mk (0) (1) aa (0)) na, PV.loose (PA.mk (1) (1) ab (0)) nb, PV.int .i64 (↑na : Int), PV.int .i64 (x0 + 1)]) ([[(1, false, Blk.cols mb [Col.int .i64 tb]), (0, false, Blk.cols ma [Col.int .i64 ta])]]) (2)) (False))) (False)) (False)) (False)) (False)) (Kret (PV.tf true) ([[(1, false, Blk.cols mb [Col.int .i64 tb]), (0, false, Blk.cols ma [Col.int .i64 ta])]]) (2))
theorem t42_0 (test : TT) (Kst : KS) (Kret : KR) (aa na ma : Nat) (ta : NI) (ab nb mb : Nat) (tb : NI) (x0 : Int) : run test Tryd.env true noX true 400 ⟨42, hd Tryd.f42 0, zipT [0, 1, 12, 13] [PV.loose (PA.mk (0) (1) aa (0)) na,
 PV.loose (PA.mk (1) (1) ab (0)) nb, PV.int .i64 (↑na : Int),
 PV.int .i64 x0], [[], [(0, (false, .cols ma [.int .i64 ta])), (1, (false, .cols mb [.int .i64 tb]))]], 2⟩ (proj 2 [0, 1, 12, 13] Kst Kret) =
  T42_0 test Kst Kret aa na ma ta ab nb mb tb x0 := by kernel_rfl
noncomputable abbrev J42 (aa na ma : Nat) (ta : NI) (ab nb mb : Nat) (tb : NI) : Rt42 → Heap := fun r => [newL (2 + 1) ((N42 aa na ma ta ab nb mb tb) r) ++ [(0, (false, .cols ma [.int .i64 ta])), (1, (false, .cols mb [.int .i64 tb]))]]
attribute [local irreducible] Int.subNatNat in
theorem be42 (aa na ma : Nat) (ta : NI) (ab nb mb : Nat) (tb : NI) (Kst : KS) (Kret : KR) (x : St42 ⊕ Rt42) (hS : HS 2 400 ((I42 aa na ma ta ab nb mb tb)) Kst x) (hR : HR 2 400 ((V42 aa na ma ta ab nb mb tb)) (J42 aa na ma ta ab nb mb tb) Kret x) (h : p42 aa na ma ta ab nb mb tb = some x) : Te42 cond Kst Kret aa na ma ta ab nb mb tb := by
  unfold Te42
  unfold p42 at h
  refine bif_split h (fun c0 h => ret_at hR _ h (fun n => n) rfl rfl rfl (rn_bool_tf rfl) rfl (entl_bor (use_lo rfl) rfl rfl (entl_bor (use_lo rfl) rfl rfl entl_nil))) (fun c0 h => stop_at hS _ h (fun n => n) rfl rfl rfl ⟨(rn_loose (use_lo rfl) rfl rfl rfl), ⟨(rn_loose (use_lo rfl) rfl rfl rfl), ⟨(rn_int rfl), ⟨(rn_int rfl), trivial⟩⟩⟩⟩ rfl (entl_bor (use_lo rfl) rfl rfl (entl_bor (use_lo rfl) rfl rfl entl_nil)))
attribute [local irreducible] Int.subNatNat in
theorem b42_0 (aa na ma : Nat) (ta : NI) (ab nb mb : Nat) (tb : NI) (Kst : KS) (Kret : KR) (x : St42 ⊕ Rt42) (hS : HS 2 400 ((I42 aa na ma ta ab nb mb tb)) Kst x) (hR : HR 2 400 ((V42 aa na ma ta ab nb mb tb)) (J42 aa na ma ta ab nb mb tb) Kret x) (x0 : Int) (h : q42 aa na ma ta ab nb mb tb (.h0 x0) = some x) : T42_0 cond Kst Kret aa na ma ta ab nb mb tb x0 := by
  unfold T42_0
  rw [q42] at h
  exact bif_split h (fun c0 h => bif_split h (fun c1 h => bif_split h (fun c2 h => bif_split h (fun c3 h => bif_split h (fun c4 h => bif_split h (fun c5 h => ret_at hR _ h (fun n => n) rfl rfl rfl (rn_bool_tf rfl) rfl (entl_bor (use_lo rfl) rfl rfl (entl_bor (use_lo rfl) rfl rfl entl_nil))) (fun c5 h => bif_split h (fun c6 h => stop_at hS _ h (fun n => n) rfl rfl rfl ⟨(rn_loose (use_lo rfl) rfl rfl rfl), ⟨(rn_loose (use_lo rfl) rfl rfl rfl), ⟨(rn_int rfl), ⟨(rn_int rfl), trivial⟩⟩⟩⟩ rfl (entl_bor (use_lo rfl) rfl rfl (entl_bor (use_lo rfl) rfl rfl entl_nil))) (fun c6 h => no_some h))) (fun c4 h => no_some h)) (fun c3 h => no_some h)) (fun c2 h => no_some h)) (fun c1 h => no_some h)) (fun c0 h => ret_at hR _ h (fun n => n) rfl rfl rfl (rn_bool_tf rfl) rfl (entl_bor (use_lo rfl) rfl rfl (entl_bor (use_lo rfl) rfl rfl entl_nil)))
theorem a42 (aa na ma : Nat) (ta : NI) (ab nb mb : Nat) (tb : NI) {r : Rt42} (h : Goes ((q42 aa na ma ta ab nb mb tb)) ((p42 aa na ma ta ab nb mb tb)) r) : CallR Tryd.prog 42 [.loose ⟨0, 1, aa, 0⟩ na, .loose ⟨1, 1, ab, 0⟩ nb] [[(0, (false, .cols ma [.int .i64 ta])), (1, (false, .cols mb [.int .i64 tb]))]] 2 ((V42 aa na ma ta ab nb mb tb) r) ((J42 aa na ma ta ab nb mb tb) r) 400 ∧ ∃ F, Tryd.prog.funcs[42]? = some F ∧ F.body.isSome = true ∧ (F.name == "runtime.NumGoroutine") = false := by
  refine dec_calls (f := 42) (lo := 2) (hi := 400) Tryd.envOk Tryd.mixed noX_ok ((I42 aa na ma ta ab nb mb tb)) ((V42 aa na ma ta ab nb mb tb)) (J42 aa na ma ta ab nb mb tb) (fn := mkFn Tryd.f42) (ts := [0, 1, 12, 13]) (n := 400) rfl (by decide) (by simp) (names_of rfl) ?_ ?_ ?_ h
  · intro s; cases s <;> exact ⟨hd_ok _ _, by simp [I42], names_of rfl, Nat.le_of_ble_eq_true rfl⟩
  · intro Kst Kret x hS hR h
    exact Holds.eq (te42 cond Kst Kret aa na ma ta ab nb mb tb) (be42 aa na ma ta ab nb mb tb Kst Kret x hS hR h)
  · intro Kst Kret x hS hR s h
    cases s with
    | h0 x0 => exact Holds.eq (t42_0 cond Kst Kret aa na ma ta ab nb mb tb x0) (b42_0 aa na ma ta ab nb mb tb Kst Kret x hS hR x0 h)
noncomputable abbrev w42 {α : Type} (g : Nat → Nat → Nat → (Nat → Int) → Nat → Nat → Nat → (Nat → Int) → α) (x : (Nat × Nat × Nat × (Nat → Int) × Unit) × (Nat × Nat × Nat × (Nat → Int) × Unit) × Unit) : α := g x.1.1 x.1.2.1 x.1.2.2.1 x.1.2.2.2.1 x.2.1.1 x.2.1.2.1 x.2.1.2.2.1 x.2.1.2.2.2.1
noncomputable def k42  : Con := ⟨42, [.one (.list [.int .i64]), .one (.list [.int .i64])], w42 (fun aa na ma ta ab nb mb tb => decide (aa + na ≤ ma ∧ na ≤ 1000000 ∧ ab + nb ≤ mb ∧ nb ≤ 1000000)), w42 (fun aa na ma ta ab nb mb tb => (V42 aa na ma ta ab nb mb tb) (decide ((S.mkl na fun j => ta (j + aa)) = (S.mkl nb fun j => tb (j + ab))))), w42 (fun aa na ma ta ab nb mb tb => (N42 aa na ma ta ab nb mb tb) (decide ((S.mkl na fun j => ta (j + aa)) = (S.mkl nb fun j => tb (j + ab))))), fun _ _ => .dead⟩
theorem e42 (aa na ma : Nat) (ta : Nat → Int) (ab nb mb : Nat) (tb : Nat → Int) (h : na = nb) : decide ((S.mkl na fun j => ta (j + aa)) = (S.mkl nb fun j => tb (j + ab))) = true ↔ ∀ j, j < na → ta (j + aa) = tb (j + ab) := by
  rw [decide_eq_true_eq, mkl_inj]
  simp only [h, true_and, Prod.mk.injEq]
theorem s42' (aa na ma : Nat) (ta : Nat → Int) (ab nb mb : Nat) (tb : Nat → Int) (hp : aa + na ≤ ma ∧ na ≤ 1000000 ∧ ab + nb ≤ mb ∧ nb ≤ 1000000) (he : na = nb) : ∀ k i : Nat, i + k = na → (∀ j, j < i → ta (j + aa) = tb (j + ab)) → Comes (q42 aa na ma ta ab nb mb tb) (.h0 (i : Int)) (decide ((S.mkl na fun j => ta (j + aa)) = (S.mkl nb fun j => tb (j + ab)))) := by
  obtain ⟨hp1, hp2, hp3, hp4⟩ := hp
  have hq := e42 aa na ma ta ab nb mb tb he
  generalize decide ((S.mkl na fun j => ta (j + aa)) = (S.mkl nb fun j => tb (j + ab))) = R at hq ⊢
  intro k
  induction k with
  | zero =>
    intro i hi hj
    obtain rfl : na = i := by omega
    apply Comes.of
    show Goes _ _ _
    (first | rw [q42] | unfold q42)
    repeat' (first | with_reducible refine goes_if (fun h => ?_) (fun h => ?_) <;> (try simp only [SH] at h) | exact goes_none.mpr (by omega))
    all_goals first | (exfalso; omega) | (exact goes_inr.mpr (hq.mpr hj).symm)
  | succ k ih =>
    intro i hi hj
    have hw : ∀ {P : Prop}, (R = true → P) → ¬ P → false = R := fun h1 h2 => by cases R; rfl; exact absurd (h1 rfl) h2
    apply Comes.of
    show Goes _ _ _
    (first | rw [q42] | unfold q42)
    repeat' (first | with_reducible refine goes_if (fun h => ?_) (fun h => ?_) <;> (try simp only [SH] at h) | exact goes_none.mpr (by omega))
    all_goals first
      | (exfalso; omega)
      | (refine ih (i + 1) (by omega) fun j hlt => ?_
         rcases Nat.lt_or_eq_of_le (Nat.le_of_lt_succ hlt) with h1 | h1
         · exact hj j h1
         · subst h1; simp_all)
      | (refine goes_inr.mpr (hw (fun e => hq.mp e i (by omega)) fun e => ?_); simp_all)
theorem s42 (aa na ma : Nat) (ta : Nat → Int) (ab nb mb : Nat) (tb : Nat → Int) (hp : aa + na ≤ ma ∧ na ≤ 1000000 ∧ ab + nb ≤ mb ∧ nb ≤ 1000000) : Goes ((q42 aa na ma ta ab nb mb tb)) ((p42 aa na ma ta ab nb mb tb)) (decide ((S.mkl na fun j => ta (j + aa)) = (S.mkl nb fun j => tb (j + ab)))) := by
  by_cases he : na = nb
  · have hm := s42' aa na ma ta ab nb mb tb hp he na 0 (by omega) (fun j hj => absurd hj (Nat.not_lt_zero j))
    show Goes _ _ _
    unfold p42
    repeat' (first | with_reducible refine goes_if (fun h => ?_) (fun h => ?_) <;> (try simp only [SH] at h) | exact goes_none.mpr (by omega))
    all_goals first | (exfalso; omega) | exact hm
  · have hd : decide ((S.mkl na fun j => ta (j + aa)) = (S.mkl nb fun j => tb (j + ab))) = false := decide_eq_false (fun e => he (mkl_inj.mp e).1)
    rw [hd]
    show Goes _ _ _
    unfold p42
    repeat' (first | with_reducible refine goes_if (fun h => ?_) (fun h => ?_) <;> (try simp only [SH] at h) | exact goes_none.mpr (by omega))
    all_goals first | (exfalso; omega) | rfl
theorem k42_ok  : k42.ok Tryd.prog := by
  intro x hx
  obtain ⟨⟨aa, na, ma, ta, _⟩, ⟨ab, nb, mb, tb, _⟩, _⟩ := x
  obtain ⟨h1, h2⟩ := a42 aa na ma ta ab nb mb tb (s42 aa na ma ta ab nb mb tb (of_dec hx rfl))
  exact ⟨⟨400, (by decide : 2 + 1 + 0 ≤ 400), h1⟩, h2⟩
noncomputable def xE0 (test : Bool → Prop → Prop → Prop) : Ext := consX test [k42]
theorem xE0_ok  : ExtOk Tryd.prog (xE0 cond) := consX_ok ⟨k42_ok, trivial⟩
namespace S
def samI (n1 : Bool) (n : Nat) (t : Nat → Int) (n2 : Bool) (m : Nat) (u : Nat → Int) : Bool := decide (n1 = n2 ∧ mkl n t = mkl m u)
end S
abbrev St20  := Empty
abbrev Rt20  := Bool
noncomputable def V20 (n1 : Bool) (ap np mp : Nat) (tp : NI) (n2 : Bool) (aq nq mq : Nat) (tq : NI) (r : Rt20) : PV := PV.bool r
noncomputable def N20 (n1 : Bool) (ap np mp : Nat) (tp : NI) (n2 : Bool) (aq nq mq : Nat) (tq : NI) (r : Rt20) : List Blk := []
noncomputable def I20 (n1 : Bool) (ap np mp : Nat) (tp : NI) (n2 : Bool) (aq nq mq : Nat) (tq : NI) : St20 → Hd := fun s => s.elim
noncomputable def q20 (n1 : Bool) (ap np mp : Nat) (tp : NI) (n2 : Bool) (aq nq mq : Nat) (tq : NI) : St20 → Option (St20 ⊕ Rt20) := fun s => s.elim
noncomputable def p20 (n1 : Bool) (ap np mp : Nat) (tp : NI) (n2 : Bool) (aq nq mq : Nat) (tq : NI) : Option (St20 ⊕ Rt20) := bif (n1) then (bif (n2) then (bif (decide (ap + np ≤ mp ∧ np ≤ 1000000 ∧ aq + nq ≤ mq ∧ nq ≤ 1000000)) then (bif (decide ((S.mkl np fun j => tp (j + ap)) = S.mkl nq fun j => tq (j + aq))) then (some (.inr (true))) else (some (.inr (false)))) else (none)) else (some (.inr (false)))) else (bif (n2) then (some (.inr (false))) else (bif (decide (ap + np ≤ mp ∧ np ≤ 1000000 ∧ aq + nq ≤ mq ∧ nq ≤ 1000000)) then (bif (decide ((S.mkl np fun j => tp (j + ap)) = S.mkl nq fun j => tq (j + aq))) then (some (.inr (true))) else (some (.inr (false)))) else (none)))
noncomputable def Te20 (test : TT) (Kst : KS) (Kret : KR) (n1 : Bool) (ap np mp : Nat) (tp : NI) (n2 : Bool) (aq nq mq : Nat) (tq : NI) : Prop := test (n1) (test (n2) (test (decide (ap + np ≤ mp ∧ np ≤ 1000000 ∧ aq + nq ≤ mq ∧ nq ≤ 1000000)) (test (decide ((S.mkl np fun j => tp (j + ap)) = S.mkl nq fun j => tq (j + aq))) (Kret (PV.tf true) ([[(1, false, Blk.cols mq [Col.int .i64 tq]), (0, false, Blk.cols mp [Col.int .i64 tp])]]) (5)) (Kret (PV.tf false) ([[(1, false, Blk.cols mq [Col.int .i64 tq]), (0, false, Blk.cols mp [Col.int .i64 tp])]]) (5))) (False)) (Kret (PV.tf false) ([[(1, false, Blk.cols mq [Col.int .i64 tq]), (0, false, Blk.cols mp [Col.int .i64 tp])]]) (4))) (test (n2) (Kret (PV.tf false) ([[(1, false, Blk.cols mq [Col.int .i64 tq]), (0, false, Blk.cols mp [Col.int .i64 tp])]]) (4)) (test (decide (ap + np ≤ mp ∧ np ≤ 1000000 ∧ aq + nq ≤ mq ∧ nq ≤ 1000000)) (test (decide ((S.mkl np fun j => tp (j + ap)) = S.mkl nq fun j => tq (j + aq))) (Kret (PV.tf true) ([[(1, false, Blk.cols mq [Col.int .i64 tq]), (0, false, Blk.cols mp [Col.int .i64 tp])]]) (5)) (Kret (PV.tf false) ([[(1, false, Blk.cols mq [Col.int .i64 tq]), (0, false, Blk.cols mp [Col.int .i64 tp])]]) (5))) (False)))
theorem te20 (test : TT) (Kst : KS) (Kret : KR) (n1 : Bool) (ap np mp : Nat) (tp : NI) (n2 : Bool) (aq nq mq : Nat) (tq : NI) : run test Tryd.env true (xE0 test) true 400 ⟨20, [.cd (mkFn Tryd.f20).body], argT 0 [.agg [.bool n1, .loose ⟨0, 1, ap, 0⟩ np], .agg [.bool n2, .loose ⟨1, 1, aq, 0⟩ nq]], [[], [(0, (false, .cols mp [.int .i64 tp])), (1, (false, .cols mq [.int .i64 tq]))]], 2⟩ (proj 2 [] Kst Kret) =
  Te20 test Kst Kret n1 ap np mp tp n2 aq nq mq tq := by kernel_rfl
noncomputable abbrev J20 (n1 : Bool) (ap np mp : Nat) (tp : NI) (n2 : Bool) (aq nq mq : Nat) (tq : NI) : Rt20 → Heap := fun r => [newL (2 + 1) ((N20 n1 ap np mp tp n2 aq nq mq tq) r) ++ [(0, (false, .cols mp [.int .i64 tp])), (1, (false, .cols mq [.int .i64 tq]))]]
attribute [local irreducible] Int.subNatNat in
theorem be20 (n1 : Bool) (ap np mp : Nat) (tp : NI) (n2 : Bool) (aq nq mq : Nat) (tq : NI) (Kst : KS) (Kret : KR) (x : St20 ⊕ Rt20) (hS : HS 2 400 ((I20 n1 ap np mp tp n2 aq nq mq tq)) Kst x) (hR : HR 2 400 ((V20 n1 ap np mp tp n2 aq nq mq tq)) (J20 n1 ap np mp tp n2 aq nq mq tq) Kret x) (h : p20 n1 ap np mp tp n2 aq nq mq tq = some x) : Te20 cond Kst Kret n1 ap np mp tp n2 aq nq mq tq := by
  unfold Te20
  unfold p20 at h
  refine bif_split h (fun c0 h => bif_split h (fun c1 h => bif_split h (fun c2 h => bif_split h (fun c3 h => ?_) (fun c3 h => ?_)) (fun c2 h => ?_)) (fun c1 h => ?_)) (fun c0 h => bif_split h (fun c1 h => ?_) (fun c1 h => bif_split h (fun c2 h => bif_split h (fun c3 h => ?_) (fun c3 h => ?_)) (fun c2 h => ?_)))
  all_goals first
    | exact ret_at hR _ h (fun n => n) rfl rfl rfl (rn_bool_tf rfl) rfl (entl_bor (use_lo rfl) rfl rfl (entl_bor (use_lo rfl) rfl rfl entl_nil))
    | exact no_some h
theorem a20 (n1 : Bool) (ap np mp : Nat) (tp : NI) (n2 : Bool) (aq nq mq : Nat) (tq : NI) {r : Rt20} (h : Goes ((q20 n1 ap np mp tp n2 aq nq mq tq)) ((p20 n1 ap np mp tp n2 aq nq mq tq)) r) : CallR Tryd.prog 20 [.agg [.bool n1, .loose ⟨0, 1, ap, 0⟩ np], .agg [.bool n2, .loose ⟨1, 1, aq, 0⟩ nq]] [[(0, (false, .cols mp [.int .i64 tp])), (1, (false, .cols mq [.int .i64 tq]))]] 2 ((V20 n1 ap np mp tp n2 aq nq mq tq) r) ((J20 n1 ap np mp tp n2 aq nq mq tq) r) 400 ∧ ∃ F, Tryd.prog.funcs[20]? = some F ∧ F.body.isSome = true ∧ (F.name == "runtime.NumGoroutine") = false := by
  refine dec_calls (f := 20) (lo := 2) (hi := 400) Tryd.envOk Tryd.mixed xE0_ok ((I20 n1 ap np mp tp n2 aq nq mq tq)) ((V20 n1 ap np mp tp n2 aq nq mq tq)) (J20 n1 ap np mp tp n2 aq nq mq tq) (fn := mkFn Tryd.f20) (ts := []) (n := 400) rfl (by decide) (by simp) (names_of rfl) ?_ ?_ ?_ h
  · intro s; exact s.elim
  · intro Kst Kret x hS hR h
    exact Holds.eq (te20 cond Kst Kret n1 ap np mp tp n2 aq nq mq tq) (be20 n1 ap np mp tp n2 aq nq mq tq Kst Kret x hS hR h)
  · intro Kst Kret x hS hR s h; exact s.elim
noncomputable abbrev w20 {α : Type} (g : Bool → Nat → Nat → Nat → (Nat → Int) → Bool → Nat → Nat → Nat → (Nat → Int) → α) (x : (Bool × (Nat × Nat × Nat × (Nat → Int) × Unit) × Unit) × (Bool × (Nat × Nat × Nat × (Nat → Int) × Unit) × Unit) × Unit) : α := g x.1.1 x.1.2.1.1 x.1.2.1.2.1 x.1.2.1.2.2.1 x.1.2.1.2.2.2.1 x.2.1.1 x.2.1.2.1.1 x.2.1.2.1.2.1 x.2.1.2.1.2.2.1 x.2.1.2.1.2.2.2.1
noncomputable def k20  : Con := ⟨20, [.agg [.plain (.bool), .list [.int .i64]], .agg [.plain (.bool), .list [.int .i64]]], w20 (fun n1 ap np mp tp n2 aq nq mq tq => decide ((ap + np ≤ mp ∧ np ≤ 1000000) ∧ aq + nq ≤ mq ∧ nq ≤ 1000000)), w20 (fun n1 ap np mp tp n2 aq nq mq tq => (V20 n1 ap np mp tp n2 aq nq mq tq) (S.samI n1 np (fun j => tp (j + ap)) n2 nq (fun j => tq (j + aq)))), w20 (fun n1 ap np mp tp n2 aq nq mq tq => (N20 n1 ap np mp tp n2 aq nq mq tq) (S.samI n1 np (fun j => tp (j + ap)) n2 nq (fun j => tq (j + aq)))), fun _ _ => .dead⟩
theorem s20 (n1 : Bool) (ap np mp : Nat) (tp : Nat → Int) (n2 : Bool) (aq nq mq : Nat) (tq : Nat → Int) (hp : (ap + np ≤ mp ∧ np ≤ 1000000) ∧ aq + nq ≤ mq ∧ nq ≤ 1000000) : Goes ((q20 n1 ap np mp tp n2 aq nq mq tq)) ((p20 n1 ap np mp tp n2 aq nq mq tq)) (S.samI n1 np (fun j => tp (j + ap)) n2 nq (fun j => tq (j + aq))) := by
  unfold S.samI
  by_cases h : S.mkl np (fun j => tp (j + ap)) = S.mkl nq (fun j => tq (j + aq))
  · have e : decide (n1 = n2 ∧ S.mkl np (fun j => tp (j + ap)) = S.mkl nq (fun j => tq (j + aq))) = (n1 == n2) := by
      rw [Bool.eq_iff_iff, decide_eq_true_eq, beq_iff_eq]
      exact ⟨fun x => x.1, fun x => ⟨x, h⟩⟩
    rw [e]
    unfold p20
    rw [decide_eq_true h]
    cases n1 <;> cases n2 <;>
    repeat' first
      | with_reducible exact goes_inr.mpr rfl
      | (refine goes_ok ?_ ?_; focus (first | with_reducible exact beq_self_eq_true _ | (simp only [Bool.and_eq_true, decide_eq_true_eq, and_self, eq_self]; done) | with_reducible exact decide_eq_true trivial | with_reducible exact decide_eq_true rfl | (simp only [eq_self, decide_true, Bool.and_self, Bool.and_true, Bool.true_and]; done) | (apply decide_eq_true; omega) | (rw [lim64]; apply decide_eq_true; omega) | (apply decide_eq_true; simp only [mkl_len, mkl_zero, List.length_nil, true_and, and_true, and_self, Nat.zero_add, Nat.add_zero, Nat.le_refl]; done) | (apply decide_eq_true; simp only [mkl_len, mkl_zero, List.length_nil, true_and, and_true, and_self, Nat.zero_add, Nat.add_zero, Nat.le_refl]; omega) | decide))
      | (refine goes_no ?_ ?_; focus (first | with_reducible exact bne_self_eq_false _ | (apply decide_eq_false; omega) | decide))

  · have e : decide (n1 = n2 ∧ S.mkl np (fun j => tp (j + ap)) = S.mkl nq (fun j => tq (j + aq))) = false := decide_eq_false fun x => h x.2
    rw [e]
    unfold p20
    rw [decide_eq_false h]
    cases n1 <;> cases n2 <;>
    repeat' first
      | with_reducible exact goes_inr.mpr rfl
      | (refine goes_ok ?_ ?_; focus (first | with_reducible exact beq_self_eq_true _ | (simp only [Bool.and_eq_true, decide_eq_true_eq, and_self, eq_self]; done) | with_reducible exact decide_eq_true trivial | with_reducible exact decide_eq_true rfl | (simp only [eq_self, decide_true, Bool.and_self, Bool.and_true, Bool.true_and]; done) | (apply decide_eq_true; omega) | (rw [lim64]; apply decide_eq_true; omega) | (apply decide_eq_true; simp only [mkl_len, mkl_zero, List.length_nil, true_and, and_true, and_self, Nat.zero_add, Nat.add_zero, Nat.le_refl]; done) | (apply decide_eq_true; simp only [mkl_len, mkl_zero, List.length_nil, true_and, and_true, and_self, Nat.zero_add, Nat.add_zero, Nat.le_refl]; omega) | decide))
      | (refine goes_no ?_ ?_; focus (first | with_reducible exact bne_self_eq_false _ | (apply decide_eq_false; omega) | decide))
theorem k20_ok  : k20.ok Tryd.prog := by
  intro x hx
  obtain ⟨⟨n1, ⟨ap, np, mp, tp, _⟩, _⟩, ⟨n2, ⟨aq, nq, mq, tq, _⟩, _⟩, _⟩ := x
  obtain ⟨h1, h2⟩ := a20 n1 ap np mp tp n2 aq nq mq tq (s20 n1 ap np mp tp n2 aq nq mq tq (of_dec hx rfl))
  exact ⟨⟨400, (by decide : 2 + 1 + 0 ≤ 400), h1⟩, h2⟩
noncomputable def xE2 (test : Bool → Prop → Prop → Prop) : Ext := consX test [k45]
theorem xE2_ok  : ExtOk Tryd.prog (xE2 cond) := consX_ok ⟨k45_ok, trivial⟩
abbrev St16  := Empty
abbrev Rt16  := Bool × List Int
noncomputable def V16 (n1 : Bool) (ap np mp : Nat) (tp : NI) (r : Rt16) : PV := PV.agg [PV.bool r.1, PV.own (2) (1) (List.length r.2)]
noncomputable def N16 (n1 : Bool) (ap np mp : Nat) (tp : NI) (r : Rt16) : List Blk := [Blk.cols (List.length r.2) [Col.int .i64 fun j => S.at' r.2 j]]
noncomputable def I16 (n1 : Bool) (ap np mp : Nat) (tp : NI) : St16 → Hd := fun s => s.elim
noncomputable def q16 (n1 : Bool) (ap np mp : Nat) (tp : NI) : St16 → Option (St16 ⊕ Rt16) := fun s => s.elim
noncomputable def p16 (n1 : Bool) (ap np mp : Nat) (tp : NI) : Option (St16 ⊕ Rt16) := bif (n1) then (bif (decide (ap + np ≤ mp ∧ np ≤ 1000000)) then (some (.inr (true, S.mkl np fun j => tp (j + ap)))) else (none)) else (bif (decide (ap + np ≤ mp ∧ np ≤ 1000000)) then (some (.inr (false, S.mkl np fun j => tp (j + ap)))) else (none))
noncomputable def Te16 (test : TT) (Kst : KS) (Kret : KR) (n1 : Bool) (ap np mp : Nat) (tp : NI) : Prop := test (n1) (test (decide (ap + np ≤ mp ∧ np ≤ 1000000)) (Kret (PV.agg [PV.tf true, PV.own (4) (1) np]) ([[(0, false, Blk.cols mp [Col.int .i64 tp]), (4, true, Blk.cols np [Col.int .i64 fun j => tp (j + ap)])]]) (5)) (False)) (test (decide (ap + np ≤ mp ∧ np ≤ 1000000)) (Kret (PV.agg [PV.tf false, PV.own (4) (1) np]) ([[(0, false, Blk.cols mp [Col.int .i64 tp]), (4, true, Blk.cols np [Col.int .i64 fun j => tp (j + ap)])]]) (5)) (False))
theorem te16 (test : TT) (Kst : KS) (Kret : KR) (n1 : Bool) (ap np mp : Nat) (tp : NI) : run test Tryd.env true (xE2 test) true 400 ⟨16, [.cd (mkFn Tryd.f16).body], argT 0 [.agg [.bool n1, .loose ⟨0, 1, ap, 0⟩ np]], [[], [(0, (false, .cols mp [.int .i64 tp]))]], 1⟩ (proj 1 [] Kst Kret) =
  Te16 test Kst Kret n1 ap np mp tp := by kernel_rfl
noncomputable abbrev J16 (n1 : Bool) (ap np mp : Nat) (tp : NI) : Rt16 → Heap := fun r => [newL (1 + 1) ((N16 n1 ap np mp tp) r) ++ [(0, (false, .cols mp [.int .i64 tp]))]]
attribute [local irreducible] Int.subNatNat in
theorem be16 (n1 : Bool) (ap np mp : Nat) (tp : NI) (Kst : KS) (Kret : KR) (x : St16 ⊕ Rt16) (hS : HS 1 400 ((I16 n1 ap np mp tp)) Kst x) (hR : HR 1 400 ((V16 n1 ap np mp tp)) (J16 n1 ap np mp tp) Kret x) (h : p16 n1 ap np mp tp = some x) : Te16 cond Kst Kret n1 ap np mp tp := by
  unfold Te16
  unfold p16 at h
  refine bif_split h (fun c0 h => bif_split h (fun c1 h => ?_) (fun c1 h => ?_)) (fun c0 h => bif_split h (fun c1 h => ?_) (fun c1 h => ?_))
  all_goals first
    | exact ret_at hR _ h (fun n => bif Nat.beq n 2 then 4 else n) rfl rfl rfl (rn_agg ⟨(rn_bool_tf rfl), (rn_own (use_own rfl) rfl mkl_len), trivial⟩) rfl (entl_new (use_own rfl) rfl (Nat.le_of_eq mkl_len) (rcs_int (fun _ hj => col_mkl (fun (t : Int) => t) hj) rcs_nil) (entl_bor (use_lo rfl) rfl rfl entl_nil))
    | exact no_some h
theorem a16 (n1 : Bool) (ap np mp : Nat) (tp : NI) {r : Rt16} (h : Goes ((q16 n1 ap np mp tp)) ((p16 n1 ap np mp tp)) r) : CallR Tryd.prog 16 [.agg [.bool n1, .loose ⟨0, 1, ap, 0⟩ np]] [[(0, (false, .cols mp [.int .i64 tp]))]] 1 ((V16 n1 ap np mp tp) r) ((J16 n1 ap np mp tp) r) 400 ∧ ∃ F, Tryd.prog.funcs[16]? = some F ∧ F.body.isSome = true ∧ (F.name == "runtime.NumGoroutine") = false := by
  refine dec_calls (f := 16) (lo := 1) (hi := 400) Tryd.envOk Tryd.mixed xE2_ok ((I16 n1 ap np mp tp)) ((V16 n1 ap np mp tp)) (J16 n1 ap np mp tp) (fn := mkFn Tryd.f16) (ts := []) (n := 400) rfl (by decide) (by simp) (names_of rfl) ?_ ?_ ?_ h
  · intro s; exact s.elim
  · intro Kst Kret x hS hR h
    exact Holds.eq (te16 cond Kst Kret n1 ap np mp tp) (be16 n1 ap np mp tp Kst Kret x hS hR h)
  · intro Kst Kret x hS hR s h; exact s.elim
noncomputable abbrev w16 {α : Type} (g : Bool → Nat → Nat → Nat → (Nat → Int) → α) (x : (Bool × (Nat × Nat × Nat × (Nat → Int) × Unit) × Unit) × Unit) : α := g x.1.1 x.1.2.1.1 x.1.2.1.2.1 x.1.2.1.2.2.1 x.1.2.1.2.2.2.1
noncomputable def k16  : Con := ⟨16, [.agg [.plain (.bool), .list [.int .i64]]], w16 (fun n1 ap np mp tp => decide (ap + np ≤ mp ∧ np ≤ 1000000)), w16 (fun n1 ap np mp tp => (V16 n1 ap np mp tp) (n1, S.mkl np (fun j => tp (j + ap)))), w16 (fun n1 ap np mp tp => (N16 n1 ap np mp tp) (n1, S.mkl np (fun j => tp (j + ap)))), fun _ _ => .dead⟩
theorem s16 (n1 : Bool) (ap np mp : Nat) (tp : Nat → Int) (hp : ap + np ≤ mp ∧ np ≤ 1000000) : Goes ((q16 n1 ap np mp tp)) ((p16 n1 ap np mp tp)) ((n1, S.mkl np (fun j => tp (j + ap)))) := by
  unfold p16
  have h2 : 0 + np ≤ np ∧ np ≤ 1000000 := ⟨by omega, hp.2⟩
  cases n1 <;>
    repeat' first
      | with_reducible exact goes_inr.mpr rfl
      | (refine goes_ok ?_ ?_; focus (first | with_reducible exact beq_self_eq_true _ | (simp only [Bool.and_eq_true, decide_eq_true_eq, and_self, eq_self]; done) | with_reducible exact decide_eq_true trivial | with_reducible exact decide_eq_true rfl | (simp only [eq_self, decide_true, Bool.and_self, Bool.and_true, Bool.true_and]; done) | (apply decide_eq_true; omega) | (rw [lim64]; apply decide_eq_true; omega) | (apply decide_eq_true; simp only [mkl_len, mkl_zero, List.length_nil, true_and, and_true, and_self, Nat.zero_add, Nat.add_zero, Nat.le_refl]; done) | (apply decide_eq_true; simp only [mkl_len, mkl_zero, List.length_nil, true_and, and_true, and_self, Nat.zero_add, Nat.add_zero, Nat.le_refl]; omega) | decide))
      | (refine goes_no ?_ ?_; focus (first | with_reducible exact bne_self_eq_false _ | (apply decide_eq_false; omega) | decide))
theorem k16_ok  : k16.ok Tryd.prog := by
  intro x hx
  obtain ⟨⟨n1, ⟨ap, np, mp, tp, _⟩, _⟩, _⟩ := x
  obtain ⟨h1, h2⟩ := a16 n1 ap np mp tp (s16 n1 ap np mp tp (of_dec hx rfl))
  exact ⟨⟨400, (by decide : 1 + 1 + 1 ≤ 400), h1⟩, h2⟩
noncomputable def k12  : Con := ⟨12, [], fun _ => true, fun _ => .bool true, fun _ => [], fun _ _ => .dead⟩
theorem te12 (Kst : KS) (Kret : KR) : run cond Tryd.env true noX false 4000 ⟨12, [.cd (mkFn Tryd.f12).body], [], [[], []], 0⟩ (proj 0 [] Kst Kret) = Kret (.tf true) [[]] 483 := by kernel_rfl
theorem k12_ok  : k12.ok Tryd.prog := awake_ok (fn := mkFn Tryd.f12) (hi := 484) (n := 4000) Tryd.envOk Tryd.mixed noX_ok rfl (by decide) (by decide : Nat.ble 483 484 = true) te12
theorem size_list (a : ByteArray) : a.size = a.data.toList.length := rfl
theorem eqS_iff  {a b : ByteArray} : S.eqS a b = true ↔ a = b := by
  show (a.toList == b.toList) = true ↔ a = b
  rw [ByteArray.toList_eq a, ByteArray.toList_eq b, beq_iff_eq]
  constructor
  · intro h
    cases a; cases b
    simpa using Array.ext' h
  · rintro rfl; rfl
theorem eqS_dec  {a b : ByteArray} {p : Prop} [Decidable p] (h : a = b ↔ p) : S.eqS a b = decide p := by
  rw [Bool.eq_iff_iff, eqS_iff, decide_eq_true_eq]
  exact h
theorem keys_get  {a : ByteArray} {j : Nat} (h : j < a.data.toList.length) : keys a j = (((a.data.toList[j]'h).toNat : Nat) : Int) := by
  unfold keys
  rw [List.getD_eq_getElem?_getD, List.getElem?_eq_getElem h]
  rfl
theorem keys_ext  {a b : ByteArray} (h : a.size = b.size) (hk : ∀ j, j < a.size → keys a j = keys b j) : a = b := by
  have hl : a.data.toList = b.data.toList := by
    apply List.ext_getElem
    · rw [← size_list, ← size_list, h]
    · intro j h1 h2
      have := hk j (by rw [size_list]; exact h1)
      rw [keys_get h1, keys_get h2] at this
      exact UInt8.toNat_inj.mp (by omega)
  cases a; cases b
  simpa using Array.ext' hl
theorem nil_iff  {a : ByteArray} : a = ByteArray.mk #[] ↔ a.size = 0 := by
  constructor
  · rintro rfl; rfl
  · intro h
    exact keys_ext (by rw [h]; rfl) fun j hj => by omega
theorem eqS_nil  {a : ByteArray} : S.eqS a (ByteArray.mk #[]) = decide (a.size = 0) := eqS_dec nil_iff
theorem one_iff  {a : ByteArray} {u : UInt8} : a = ByteArray.mk #[u] ↔ a.size = 1 ∧ keys a 0 = ((u.toNat : Nat) : Int) := by
  constructor
  · rintro rfl; exact ⟨rfl, rfl⟩
  · rintro ⟨h1, h2⟩
    refine keys_ext (by rw [h1]; rfl) fun j hj => ?_
    obtain rfl : j = 0 := by omega
    rw [h2]; rfl
theorem sub_list (a : ByteArray) (lo hi : Nat) : (a.extract lo hi).data.toList = (a.data.toList.drop lo).take (hi - lo) := by
  simp [ByteArray.data_extract, Array.toList_extract, List.extract_eq_take_drop]
theorem sub_size  {a : ByteArray} {lo hi : Nat} (h : hi ≤ a.size) : (a.extract lo hi).size = hi - lo := by
  rw [size_list, sub_list, List.length_take, List.length_drop, ← size_list]
  omega
theorem keys_sub  {a : ByteArray} {lo hi j : Nat} (h : hi ≤ a.size) (hj : j < hi - lo) : keys (a.extract lo hi) j = keys a (lo + j) := by
  have h1 : j < (a.extract lo hi).data.toList.length := by rw [← size_list, sub_size h]; exact hj
  have h2 : lo + j < a.data.toList.length := by rw [← size_list]; omega
  rw [keys_get h1, keys_get h2]
  congr 2
  simp only [sub_list]
  rw [List.getElem_take, List.getElem_drop]
theorem ofB_size  {f : Nat → Int} {n : Nat} : (S.ofB f n).size = n := by
  rw [size_list]; simp
theorem keys_ofB  {f : Nat → Int} {n j : Nat} (hj : j < n) (h : 0 ≤ f j ∧ f j ≤ 255) : keys (S.ofB f n) j = f j := by
  have h1 : j < (S.ofB f n).data.toList.length := by rw [← size_list, ofB_size]; exact hj
  rw [keys_get h1]
  simp only [List.getElem_map, List.getElem_range]
  rw [UInt8.toNat_ofNat']
  omega
theorem app_size  {a b : ByteArray} : (a ++ b).size = a.size + b.size := ByteArray.size_append
theorem keys_app  {a b : ByteArray} {j : Nat} : keys (a ++ b) j = if j < a.size then keys a j else keys b (j - a.size) := by
  unfold keys
  have e : (a ++ b).data.toList = a.data.toList ++ b.data.toList := by simp [ByteArray.data_append]
  rw [e]
  simp only [List.getD]
  split
  · rename_i h
    rw [List.getElem?_append_left (by rw [← size_list]; exact h)]
  · rename_i h
    rw [List.getElem?_append_right (by rw [← size_list]; omega), ← size_list]
theorem valF_add  {t : Nat → Int} : ∀ {a b i : Nat}, S.valF t i (a + b) = S.valF t i a + S.pw a * S.valF t (i + a) b
  | 0, b, i => by
    simp only [S.valF, S.pw]
    rw [Nat.zero_add, Nat.add_zero]; omega
  | a + 1, b, i => by
    rw [show a + 1 + b = (a + b) + 1 by omega]
    simp only [S.valF, S.pw]
    rw [valF_add, show i + (a + 1) = i + 1 + a by omega, Int.mul_assoc]
    omega
theorem valF_snoc  {t : Nat → Int} {i k : Nat} : S.valF t i (k + 1) = S.valF t i k + S.pw k * t (i + k) := by
  rw [valF_add]
  simp only [S.valF]
  rw [Int.mul_zero, Int.add_zero]
theorem fin_q  {c : Bool} {q : Int} (hq : 0 ≤ q) (h : ((S.grp q).length : Int) = 0) : S.sgB c q = false ∧ S.grp q = [] := by
  have : q ≤ 0 := len_zero.mp (by omega)
  refine ⟨?_, grp_neg this⟩
  unfold S.sgB
  rw [decide_eq_false (by omega), Bool.and_false]
theorem fin_q2  {c : Bool} {q : Int} (h : ¬ ((S.grp q).length : Int) = 0) : S.sgB c q = c := by
  have : ¬ q ≤ 0 := fun h2 => h (by have := len_zero.mpr h2; omega)
  unfold S.sgB
  rw [decide_eq_true (by omega), Bool.and_true]
section
variable {c : Bool} {q r : Int}
end
namespace S
def triN (c : Int) : Nat → ByteArray → ByteArray
  | 0, w => w
  | n + 1, w => if w.size > 0 ∧ keys w 0 = c then triN c n (subS w 1 w.size) else w
def triS (w : ByteArray) (c : Int) : ByteArray := triN c w.size w
end S
inductive St78 where
  | h0 (x0 : ByteArray)
abbrev Rt78  := ByteArray
noncomputable def V78 (st : ByteArray) (cb : Int) (r : Rt78) : PV := PV.str r
noncomputable def N78 (st : ByteArray) (cb : Int) (r : Rt78) : List Blk := []
noncomputable def I78 (st : ByteArray) (cb : Int) : St78 → Hd
  | .h0 x0 => ⟨hd Tryd.f78 0, [PV.str x0, PV.int .u8 cb], [[], []], 0⟩
noncomputable def q78 (st : ByteArray) (cb : Int) : St78 → Option (St78 ⊕ Rt78) | .h0 x0 => bif (decide ((↑(ByteArray.size x0) : Int) > 0)) then (bif (decide ((0 : Int) ≤ 0 ∧ (0 : Int) < (↑(ByteArray.size x0) : Int))) then (bif (keys x0 (0) == cb) then (bif (decide ((0 : Int) ≤ Option.getD (Option.some (1 : Int)) (0 : Int) ∧ (1 : Int) ≤ (↑(ByteArray.size x0) : Int) ∧ (↑(ByteArray.size x0) : Int) ≤ (↑(ByteArray.size x0) : Int))) then (some (.inl (.h0 (S.subS x0 (1) (ByteArray.size x0))))) else (none)) else (some (.inr (x0)))) else (none)) else (some (.inr (x0)))
noncomputable def p78 (st : ByteArray) (cb : Int) : Option (St78 ⊕ Rt78) := some (.inl (.h0 (st)))
noncomputable def Te78 (test : TT) (Kst : KS) (Kret : KR) (st : ByteArray) (cb : Int) : Prop := Kst (hd Tryd.f78 0) ([PV.str st, PV.int .u8 cb]) ([[]]) (0)
theorem te78 (test : TT) (Kst : KS) (Kret : KR) (st : ByteArray) (cb : Int) : run test Tryd.env true noX true 400 ⟨78, [.cd (mkFn Tryd.f78).body], argT 0 [.str st, .int .u8 cb], [[], []], 0⟩ (proj 0 [0, 1] Kst Kret) =
  Te78 test Kst Kret st cb := by kernel_rfl
noncomputable def T78_0 (test : TT) (Kst : KS) (Kret : KR) (st : ByteArray) (cb : Int) (x0 : ByteArray) : Prop := test (decide ((↑(ByteArray.size x0) : Int) > 0)) (test (decide ((0 : Int) ≤ 0 ∧ (0 : Int) < (↑(ByteArray.size x0) : Int))) (test (keys x0 (0) == cb) (test (decide ((0 : Int) ≤ Option.getD (Option.some (1 : Int)) (0 : Int) ∧ (1 : Int) ≤ (↑(ByteArray.size x0) : Int) ∧ (↑(ByteArray.size x0) : Int) ≤ (↑(ByteArray.size x0) : Int))) (Kst (hd Tryd.f78 0) ([PV.str (S.subS x0 (1) (ByteArray.size x0)), PV.int .u8 cb]) ([[]]) (0)) (False)) (Kret (PV.str x0) ([[]]) (0))) (False)) (Kret (PV.str x0) ([[]]) (0))
theorem t78_0 (test : TT) (Kst : KS) (Kret : KR) (st : ByteArray) (cb : Int) (x0 : ByteArray) : run test Tryd.env true noX true 400 ⟨78, hd Tryd.f78 0, zipT [0, 1] [PV.str x0, PV.int .u8 cb], [[], []], 0⟩ (proj 0 [0, 1] Kst Kret) =
  T78_0 test Kst Kret st cb x0 := by kernel_rfl
noncomputable abbrev J78 (st : ByteArray) (cb : Int) : Rt78 → Heap := fun r => [newL (0 + 1) ((N78 st cb) r) ++ []]
attribute [local irreducible] Int.subNatNat in
theorem be78 (st : ByteArray) (cb : Int) (Kst : KS) (Kret : KR) (x : St78 ⊕ Rt78) (hS : HS 0 400 ((I78 st cb)) Kst x) (hR : HR 0 400 ((V78 st cb)) (J78 st cb) Kret x) (h : (some (.inl (.h0 (st))) : Option (St78 ⊕ Rt78)) = some x) : Te78 cond Kst Kret st cb := by
  unfold Te78
  exact stop_at hS _ h (fun n => n) rfl rfl rfl ⟨(rn_str rfl), ⟨(rn_int rfl), trivial⟩⟩ rfl entl_nil
attribute [local irreducible] Int.subNatNat in
theorem b78_0 (st : ByteArray) (cb : Int) (Kst : KS) (Kret : KR) (x : St78 ⊕ Rt78) (hS : HS 0 400 ((I78 st cb)) Kst x) (hR : HR 0 400 ((V78 st cb)) (J78 st cb) Kret x) (x0 : ByteArray) (h : q78 st cb (.h0 x0) = some x) : T78_0 cond Kst Kret st cb x0 := by
  unfold T78_0
  rw [q78] at h
  exact bif_split h (fun c0 h => bif_split h (fun c1 h => bif_split h (fun c2 h => bif_split h (fun c3 h => stop_at hS _ h (fun n => n) rfl rfl rfl ⟨(rn_str rfl), ⟨(rn_int rfl), trivial⟩⟩ rfl entl_nil) (fun c3 h => no_some h)) (fun c2 h => ret_at hR _ h (fun n => n) rfl rfl rfl (rn_str rfl) rfl entl_nil)) (fun c1 h => no_some h)) (fun c0 h => ret_at hR _ h (fun n => n) rfl rfl rfl (rn_str rfl) rfl entl_nil)
theorem a78 (st : ByteArray) (cb : Int) {r : Rt78} (h : Goes ((q78 st cb)) ((p78 st cb)) r) : CallR Tryd.prog 78 [.str st, .int .u8 cb] [[]] 0 ((V78 st cb) r) ((J78 st cb) r) 400 ∧ ∃ F, Tryd.prog.funcs[78]? = some F ∧ F.body.isSome = true ∧ (F.name == "runtime.NumGoroutine") = false := by
  refine dec_calls (f := 78) (lo := 0) (hi := 400) Tryd.envOk Tryd.mixed noX_ok ((I78 st cb)) ((V78 st cb)) (J78 st cb) (fn := mkFn Tryd.f78) (ts := [0, 1]) (n := 400) rfl (by decide) (by simp) (names_of rfl) ?_ ?_ ?_ h
  · intro s; cases s <;> exact ⟨hd_ok _ _, by simp [I78], names_of rfl, Nat.le_of_ble_eq_true rfl⟩
  · intro Kst Kret x hS hR h
    exact Holds.eq (te78 cond Kst Kret st cb) (be78 st cb Kst Kret x hS hR h)
  · intro Kst Kret x hS hR s h
    cases s with
    | h0 x0 => exact Holds.eq (t78_0 cond Kst Kret st cb x0) (b78_0 st cb Kst Kret x hS hR x0 h)
noncomputable abbrev w78 {α : Type} (g : ByteArray → Int → α) (x : ByteArray × Int × Unit) : α := g x.1 x.2.1
noncomputable def k78  : Con := ⟨78, [.one (.plain (.str)), .one (.plain (.int .u8))], w78 (fun st cb => decide (st.size ≤ 1000000)), w78 (fun st cb => (V78 st cb) (S.triS st cb)), w78 (fun st cb => (N78 st cb) (S.triS st cb)), fun _ _ => .dead⟩
theorem s78' (st : ByteArray) (cb : Int) : ∀ (n : Nat) (w : ByteArray), w.size = n → n ≤ 1000000 → Comes (q78 st cb) (.h0 w) (S.triN cb n w) := by
  intro n
  induction n with
  | zero =>
    intro w hw hn
    apply Comes.of
    show Goes _ _ _
    (first | rw [q78] | unfold q78)
    repeat' (first | with_reducible refine goes_if (fun h => ?_) (fun h => ?_) <;> (try simp only [SH] at h) | exact goes_none.mpr (by omega))
    all_goals first | (exfalso; omega) | exact goes_inr.mpr rfl
  | succ n ih =>
    intro w hw hn
    have ih := ih (S.subS w 1 w.size) (by rw [sub_size (Nat.le_refl _)]; omega) (by omega)
    simp only [S.triN]
    apply Comes.of
    show Goes _ _ _
    (first | rw [q78] | unfold q78)
    repeat' (first | with_reducible refine goes_if (fun h => ?_) (fun h => ?_) <;> (try simp only [SH] at h) | exact goes_none.mpr (by omega))
    all_goals first
      | (exfalso; omega)
      | (rw [if_pos (by omega)]; exact ih)
      | (rw [if_neg (by omega)]; exact goes_inr.mpr rfl)
theorem s78 (st : ByteArray) (cb : Int) (hp : st.size ≤ 1000000) : Goes ((q78 st cb)) ((p78 st cb)) (S.triS st cb) := by
  exact s78' st cb st.size st rfl hp
theorem k78_ok  : k78.ok Tryd.prog := by
  intro x hx
  obtain ⟨st, cb, _⟩ := x
  obtain ⟨h1, h2⟩ := a78 st cb (s78 st cb (of_dec hx rfl))
  exact ⟨⟨400, (by decide : 0 + 1 + 0 ≤ 400), h1⟩, h2⟩
noncomputable def xq1 (test : Bool → Prop → Prop → Prop) : Ext := consX test [k18, k19, k78]
theorem xq1_ok  : ExtOk Tryd.prog (xq1 cond) := consX_ok ⟨k18_ok, k19_ok, k78_ok, trivial⟩
namespace S
def digC (x : Int) : Bool := decide (48 ≤ x ∧ x ≤ 57)
def alD (w : ByteArray) : Bool := all (fun j => digC (keys w j)) w.size
def natB (w : ByteArray) : Bool := decide (w.size ≠ 0 ∧ ¬ (w.size > 1 ∧ keys w 0 = 48)) && alD w
def decN (f : Nat → Int) : Nat → Int
  | 0 => 0
  | n + 1 => decN f n * 10 + f n
def decW (w : ByteArray) (n : Nat) : Int := decN (fun j => keys w j - 48) n
noncomputable def parW (ng : Bool) (w : ByteArray) : Bool × Int × List Int :=
  if natB w = true ∧ ¬ (ng = true ∧ w.size = 1 ∧ keys w 0 = 48) then
    (if w.size > 480 then (false, 3, []) else (sgB ng (decW w w.size), 0, grp (decW w w.size)))
  else (false, 2, [])
def isM (st : ByteArray) : Bool := decide (st.size > 0 ∧ keys st 0 = 45)
noncomputable def parS (st : ByteArray) : Bool × Int × List Int := if isM st = true then parW true (subS st 1 st.size) else parW false st
end S
def pT  : Nat → Int
  | 0 => 1
  | n + 1 => 10 * pT n
theorem p10_pos  : ∀ {n : Nat}, 0 < pT n
  | 0 => by show (0 : Int) < 1; decide
  | n + 1 => by have := p10_pos (n := n); show 0 < 10 * pT n; omega
theorem p10_6  {n : Nat} (h : n ≤ 6) : pT n ≤ 1000000 := by
  have : n = 0 ∨ n = 1 ∨ n = 2 ∨ n = 3 ∨ n = 4 ∨ n = 5 ∨ n = 6 := by omega
  rcases this with rfl | rfl | rfl | rfl | rfl | rfl | rfl <;> decide
theorem decN_b  {f : Nat → Int} : ∀ {n : Nat}, (∀ j, j < n → 0 ≤ f j ∧ f j ≤ 9) → 0 ≤ S.decN f n ∧ S.decN f n < pT n
  | 0, _ => ⟨Int.le_refl _, by show (0 : Int) < 1; decide⟩
  | n + 1, h => by
    have ih := decN_b (n := n) fun j hj => h j (by omega)
    have h0 := h n (by omega)
    simp only [S.decN, pT]
    omega
theorem decN_add  {f : Nat → Int} {a : Nat} : ∀ {c : Nat}, S.decN f (a + c) = S.decN f a * pT c + S.decN (fun j => f (a + j)) c
  | 0 => by simp only [S.decN, pT, Nat.add_zero]; omega
  | c + 1 => by
    show S.decN f (a + c) * 10 + f (a + c) = _
    rw [decN_add]
    simp only [S.decN, pT]
    rw [Int.mul_left_comm (S.decN f a) 10 (pT c)]
    omega
theorem decN_congr  {f g : Nat → Int} : ∀ {n : Nat}, (∀ j, j < n → f j = g j) → S.decN f n = S.decN g n
  | 0, _ => rfl
  | n + 1, h => by
    simp only [S.decN]
    rw [decN_congr fun j hj => h j (by omega), h n (by omega)]
theorem alD_iff  {w : ByteArray} : S.alD w = true ↔ ∀ j, j < w.size → 48 ≤ keys w j ∧ keys w j ≤ 57 := by
  unfold S.alD
  rw [all_iff]
  simp only [S.digC, decide_eq_true_eq]
inductive St68 where
  | h0 (x0 : Int) (x1 : List Int)
abbrev Rt68  := Bool
noncomputable def V68 (st : ByteArray) (r : Rt68) : PV := PV.bool r
noncomputable def N68 (st : ByteArray) (r : Rt68) : List Blk := []
noncomputable def I68 (st : ByteArray) : St68 → Hd
  | .h0 x0 x1 => ⟨hd Tryd.f68 0, [PV.own (0) (1) (List.length x1), PV.int .i64 (↑(ByteArray.size st) : Int),
 PV.int .i64 x0], [[(0, (true, Blk.cols (List.length x1) [Col.int .u8 fun j => S.at' x1 j]))], []], 1⟩
noncomputable def q68 (st : ByteArray) : St68 → Option (St68 ⊕ Rt68) | .h0 x0 x1 => bif (decide (x0 < (↑(ByteArray.size st) : Int))) then (bif (decide ((0 : Int) ≤ x0 ∧ x0 < (↑(List.length x1) : Int))) then (bif (decide (Int.toNat x0 < List.length x1)) then (bif (decide (S.at' x1 (Int.toNat x0) < 48)) then (some (.inr (false))) else (bif (decide (S.at' x1 (Int.toNat x0) > 57)) then (some (.inr (false))) else (bif (lim .i64 (x0 + 1)) then (some (.inl (.h0 (x0 + 1) (x1)))) else (none)))) else (none)) else (none)) else (some (.inr (true)))
noncomputable def p68 (st : ByteArray) : Option (St68 ⊕ Rt68) := bif (S.eqS st (ByteArray.mk #[])) then (some (.inr (false))) else (bif (decide ((↑(ByteArray.size st) : Int) > 1)) then (bif (decide ((0 : Int) ≤ 0 ∧ (0 : Int) < (↑(ByteArray.size st) : Int))) then (bif (keys st (0) == 48) then (some (.inr (false))) else (some (.inl (.h0 ((0 : Int)) (S.mkl (ByteArray.size st) fun j => keys st j))))) else (none)) else (some (.inl (.h0 ((0 : Int)) (S.mkl (ByteArray.size st) fun j => keys st j)))))
noncomputable def Te68 (test : TT) (Kst : KS) (Kret : KR) (st : ByteArray) : Prop := test (S.eqS st (ByteArray.mk #[])) (Kret (PV.tf false) ([[]]) (0)) (test (decide ((↑(ByteArray.size st) : Int) > 1)) (test (decide ((0 : Int) ≤ 0 ∧ (0 : Int) < (↑(ByteArray.size st) : Int))) (test (keys st (0) == 48) (Kret (PV.tf false) ([[]]) (0)) (Kst (hd Tryd.f68 0) ([PV.own (0) (1) (ByteArray.size st), PV.int .i64 (↑(ByteArray.size st) : Int), PV.int .i64 (0 : Int)]) ([[(0, true, Blk.cols (ByteArray.size st) [Col.int .u8 fun j => keys st j])]]) (1))) (False)) (Kst (hd Tryd.f68 0) ([PV.own (0) (1) (ByteArray.size st), PV.int .i64 (↑(ByteArray.size st) : Int), PV.int .i64 (0 : Int)]) ([[(0, true, Blk.cols (ByteArray.size st) [Col.int .u8 fun j => keys st j])]]) (1)))
theorem te68 (test : TT) (Kst : KS) (Kret : KR) (st : ByteArray) : run test Tryd.env true noX true 400 ⟨68, [.cd (mkFn Tryd.f68).body], argT 0 [.str st], [[], []], 0⟩ (proj 0 [18, 19, 20] Kst Kret) =
  Te68 test Kst Kret st := by kernel_rfl
noncomputable def T68_0 (test : TT) (Kst : KS) (Kret : KR) (st : ByteArray) (x0 : Int) (x1 : List Int) : Prop := test (decide (x0 < (↑(ByteArray.size st) : Int))) (test (decide ((0 : Int) ≤ x0 ∧ x0 < (↑(List.length x1) : Int))) (test (decide (Int.toNat x0 < List.length x1)) (test (decide (S.at' x1 (Int.toNat x0) < 48)) (Kret (PV.tf false) ([[]]) (1)) (test (decide (S.at' x1 (Int.toNat x0) > 57)) (Kret (PV.tf false) ([[]]) (1)) (test (lim .i64 (x0 + 1)) (Kst (hd Tryd.f68 0) ([PV.own (0) (1) (List.length x1), PV.int .i64 (↑(ByteArray.size st) : Int), PV.int .i64 (x0 + 1)]) ([[(0, true, Blk.cols (List.length x1) [Col.int .u8 fun j => S.at' x1 j])]]) (1)) (False)))) (False)) (False)) (Kret (PV.tf true) ([[]]) (1))
theorem t68_0 (test : TT) (Kst : KS) (Kret : KR) (st : ByteArray) (x0 : Int) (x1 : List Int) : run test Tryd.env true noX true 400 ⟨68, hd Tryd.f68 0, zipT [18, 19, 20] [PV.own (0) (1) (List.length x1), PV.int .i64 (↑(ByteArray.size st) : Int),
 PV.int .i64 x0], [[(0, (true, Blk.cols (List.length x1) [Col.int .u8 fun j => S.at' x1 j]))], []], 1⟩ (proj 0 [18, 19, 20] Kst Kret) =
  T68_0 test Kst Kret st x0 x1 := by kernel_rfl
noncomputable abbrev J68 (st : ByteArray) : Rt68 → Heap := fun r => [newL (0 + 1) ((N68 st) r) ++ []]
attribute [local irreducible] Int.subNatNat in
theorem be68 (st : ByteArray) (Kst : KS) (Kret : KR) (x : St68 ⊕ Rt68) (hS : HS 0 400 ((I68 st)) Kst x) (hR : HR 0 400 ((V68 st)) (J68 st) Kret x) (h : p68 st = some x) : Te68 cond Kst Kret st := by
  unfold Te68
  unfold p68 at h
  refine bif_split h (fun c0 h => ?_) (fun c0 h => bif_split h (fun c1 h => bif_split h (fun c2 h => bif_split h (fun c3 h => ?_) (fun c3 h => ?_)) (fun c2 h => no_some h)) (fun c1 h => ?_))
  all_goals first
    | exact ret_at hR _ h (fun n => n) rfl rfl rfl (rn_bool_tf rfl) rfl entl_nil
    | exact stop_at hS _ h (fun n => bif Nat.beq n 0 then 0 else n) rfl rfl rfl ⟨(rn_own (use_own rfl) rfl mkl_len), ⟨(rn_int rfl), ⟨(rn_int rfl), trivial⟩⟩⟩ rfl (entl_new (use_own rfl) rfl (Nat.le_of_eq mkl_len) (rcs_int (fun _ hj => col_mkl (fun (t : Int) => t) hj) rcs_nil) entl_nil)
attribute [local irreducible] Int.subNatNat in
theorem b68_0 (st : ByteArray) (Kst : KS) (Kret : KR) (x : St68 ⊕ Rt68) (hS : HS 0 400 ((I68 st)) Kst x) (hR : HR 0 400 ((V68 st)) (J68 st) Kret x) (x0 : Int) (x1 : List Int) (h : q68 st (.h0 x0 x1) = some x) : T68_0 cond Kst Kret st x0 x1 := by
  unfold T68_0
  rw [q68] at h
  exact bif_split h (fun c0 h => bif_split h (fun c1 h => bif_split h (fun c2 h => bif_split h (fun c3 h => ret_at hR _ h (fun n => n) rfl rfl rfl (rn_bool_tf rfl) rfl entl_nil) (fun c3 h => bif_split h (fun c4 h => ret_at hR _ h (fun n => n) rfl rfl rfl (rn_bool_tf rfl) rfl entl_nil) (fun c4 h => bif_split h (fun c5 h => stop_at hS _ h (fun n => bif Nat.beq n 0 then 0 else n) rfl rfl rfl ⟨(rn_own (use_own rfl) rfl rfl), ⟨(rn_int rfl), ⟨(rn_int rfl), trivial⟩⟩⟩ rfl (entl_new (use_own rfl) rfl (Nat.le_of_eq rfl) (rcs_int (fun _ _ => rfl) rcs_nil) entl_nil)) (fun c5 h => no_some h)))) (fun c2 h => no_some h)) (fun c1 h => no_some h)) (fun c0 h => ret_at hR _ h (fun n => n) rfl rfl rfl (rn_bool_tf rfl) rfl entl_nil)
theorem a68 (st : ByteArray) {r : Rt68} (h : Goes ((q68 st)) ((p68 st)) r) : CallR Tryd.prog 68 [.str st] [[]] 0 ((V68 st) r) ((J68 st) r) 400 ∧ ∃ F, Tryd.prog.funcs[68]? = some F ∧ F.body.isSome = true ∧ (F.name == "runtime.NumGoroutine") = false := by
  refine dec_calls (f := 68) (lo := 0) (hi := 400) Tryd.envOk Tryd.mixed noX_ok ((I68 st)) ((V68 st)) (J68 st) (fn := mkFn Tryd.f68) (ts := [18, 19, 20]) (n := 400) rfl (by decide) (by simp) (names_of rfl) ?_ ?_ ?_ h
  · intro s; cases s <;> exact ⟨hd_ok _ _, by simp [I68], names_of rfl, Nat.le_of_ble_eq_true rfl⟩
  · intro Kst Kret x hS hR h
    exact Holds.eq (te68 cond Kst Kret st) (be68 st Kst Kret x hS hR h)
  · intro Kst Kret x hS hR s h
    cases s with
    | h0 x0 x1 => exact Holds.eq (t68_0 cond Kst Kret st x0 x1) (b68_0 st Kst Kret x hS hR x0 x1 h)
noncomputable abbrev w68 {α : Type} (g : ByteArray → α) (x : ByteArray × Unit) : α := g x.1
noncomputable def k68  : Con := ⟨68, [.one (.plain (.str))], w68 (fun st => decide (st.size ≤ 1000000)), w68 (fun st => (V68 st) (S.natB st)), w68 (fun st => (N68 st) (S.natB st)), fun _ _ => .dead⟩
theorem s68' (st : ByteArray) (hp : st.size ≤ 1000000) : ∀ (k i : Nat), i + k = st.size → (∀ j, j < i → 48 ≤ keys st j ∧ keys st j ≤ 57) → Comes (q68 st) (.h0 (i : Int) (S.mkl st.size fun j => keys st j)) (S.alD st) := by
  intro k
  induction k with
  | zero =>
    intro i hi hj
    rw [alD_iff.mpr fun j h => hj j (by omega)]
    apply Comes.of
    show Goes _ _ _
    (first | rw [q68] | unfold q68)
    repeat' (first | with_reducible refine goes_if (fun h => ?_) (fun h => ?_) <;> (try simp only [SH] at h) | exact goes_none.mpr (by omega))
    all_goals first | (exfalso; omega) | exact goes_inr.mpr rfl
  | succ k ih =>
    intro i hi hj
    have ea : S.at' (S.mkl st.size fun j => keys st j) i = keys st i := at_mkl (by omega)
    by_cases h0 : 48 ≤ keys st i ∧ keys st i ≤ 57
    · have ih := ih (i + 1) (by omega) (fun j h => by
        by_cases hji : j = i
        · subst hji; exact h0
        · exact hj j (by omega))
      apply Comes.of
      show Goes _ _ _
      rw [q68]
      simp only [Int.toNat_natCast, ea, mkl_len]
      repeat' (first | with_reducible refine goes_if (fun h => ?_) (fun h => ?_) <;> (try simp only [SH] at h) | exact goes_none.mpr (by omega))
      all_goals first | (exfalso; omega) | exact ih
    · have hn : S.alD st = false := by
        cases hb : S.alD st
        · rfl
        · exact absurd (alD_iff.mp hb i (by omega)) h0
      rw [hn]
      apply Comes.of
      show Goes _ _ _
      rw [q68]
      simp only [Int.toNat_natCast, ea, mkl_len]
      repeat' (first | with_reducible refine goes_if (fun h => ?_) (fun h => ?_) <;> (try simp only [SH] at h) | exact goes_none.mpr (by omega))
      all_goals first | (exfalso; omega) | exact goes_inr.mpr rfl
theorem s68 (st : ByteArray) (hp : st.size ≤ 1000000) : Goes ((q68 st)) ((p68 st)) (S.natB st) := by
  have hm := s68' st hp st.size 0 (by omega) (fun j h => by omega)
  unfold S.natB
  generalize S.alD st = R at *
  unfold p68
  simp only [eqS_nil]
  repeat' (first | with_reducible refine goes_if (fun h => ?_) (fun h => ?_) <;> (try simp only [SH] at h) | exact goes_none.mpr (by omega))
  all_goals first
    | (exfalso; omega)
    | (rw [decide_eq_true (by omega), Bool.true_and]; exact hm)
    | (rw [decide_eq_false (by omega), Bool.false_and]; exact goes_inr.mpr rfl)
theorem k68_ok  : k68.ok Tryd.prog := by
  intro x hx
  obtain ⟨st, _⟩ := x
  obtain ⟨h1, h2⟩ := a68 st (s68 st (of_dec hx rfl))
  exact ⟨⟨400, (by decide : 0 + 1 + 0 ≤ 400), h1⟩, h2⟩
noncomputable def xp1 (test : Bool → Prop → Prop → Prop) : Ext := consX test [k69, k69v, k68]
theorem xp1_ok  : ExtOk Tryd.prog (xp1 cond) := consX_ok ⟨k69_ok, k69v_ok, k68_ok, trivial⟩
theorem valL_snoc  {x : Int} : ∀ {L : List Int}, S.valL (L ++ [x]) = S.valL L + S.pw L.length * x
  | [] => by simp only [List.nil_append, S.valL, List.length_nil, S.pw]; omega
  | y :: L => by
    simp only [List.cons_append, S.valL, List.length_cons, S.pw]
    rw [valL_snoc, Int.mul_add, Int.mul_assoc]
    omega
theorem decW_cut  {w : ByteArray} {a e : Nat} (h : a ≤ e) : S.decW w e = S.decW w a * pT (e - a) + S.decN (fun j => keys w (a + j) - 48) (e - a) := by
  unfold S.decW
  have := decN_add (f := fun j => keys w j - 48) (a := a) (c := e - a)
  rw [show a + (e - a) = e by omega] at this
  exact this
theorem limu8  {x : Int} : lim .u8 x = decide (0 ≤ x ∧ x ≤ 255) := rfl
theorem dig_snoc  {L : List Int} {x : Int} (h : ∀ y ∈ L, 0 ≤ y ∧ y < 1000000) (hx : 0 ≤ x ∧ x < 1000000) : ∀ y ∈ S.snoc L x, 0 ≤ y ∧ y < 1000000 := by
  intro y hy
  rw [snoc_eq] at hy
  rcases List.mem_append.mp hy with hy | hy
  · exact h y hy
  · rw [List.mem_singleton] at hy; subst hy; exact hx
theorem valL_nn'  {L : List Int} (h : ∀ x ∈ L, 0 ≤ x ∧ x < 1000000) : 0 ≤ S.valL L := valL_nn h
inductive St40 where
  | h0 (x0 : ByteArray) (x1 : Bool) (x2 : Int) (x3 : List Int)
  | h1 (x0 : ByteArray) (x1 : Bool) (x2 : Int) (x3 : Int) (x4 : Int) (x5 : Int) (x6 : List Int) (x7 : List Int)
abbrev Rt40  := Bool × Int × List Int
noncomputable def V40 (st : ByteArray) (r : Rt40) : PV := PV.tup [PV.agg [PV.bool r.1, PV.own (1) (1) (List.length r.2.2)], PV.int .i64 r.2.1]
noncomputable def N40 (st : ByteArray) (r : Rt40) : List Blk := [Blk.cols (List.length r.2.2) [Col.int .i64 fun j => S.at' r.2.2 j]]
noncomputable def I40 (st : ByteArray) : St40 → Hd
  | .h0 x0 x1 x2 x3 => ⟨hd Tryd.f40 0, [PV.ptr (PA.mk (0) (0) (0) (0)), PV.str x0, PV.bool x1,
 PV.own (1) (1) (List.length x3), PV.int .i64 x2, PV.unk, PV.unk,
 PV.unk, PV.unk], [[(0, (true, Blk.cells [PV.tf false, PV.nils])), (1, (true, Blk.cols (List.length x3) [Col.int .i64 fun j => S.at' x3 j]))], []], 2⟩
  | .h1 x0 x1 x2 x3 x4 x5 x6 x7 => ⟨hd Tryd.f40 1, [PV.ptr (PA.mk (0) (0) (0) (0)), PV.str x0, PV.bool x1,
 PV.own (2) (1) (List.length x7), PV.int .i64 x2, PV.int .i64 x3,
 PV.own (1) (1) (List.length x6), PV.int .i64 x4, PV.int .i64 x5], [[(0, (true, Blk.cells [PV.tf false, PV.nils])), (1, (true, Blk.cols (List.length x6) [Col.int .u8 fun j => S.at' x6 j])), (2, (true, Blk.cols (List.length x7) [Col.int .i64 fun j => S.at' x7 j]))], []], 3⟩
noncomputable def q40 (st : ByteArray) : St40 → Option (St40 ⊕ Rt40) | .h0 x0 x1 x2 x3 => bif (decide (x2 > 0)) then (bif (lim .i64 (x2 - 6)) then (bif (decide ((0 : Int) ≤ Max.max (0 : Int) (x2 - 6) ∧ Max.max (0 : Int) (x2 - 6) ≤ x2 ∧ x2 ≤ (↑(ByteArray.size x0) : Int))) then (some (.inl (.h1 (x0) (x1) (x2) ((0 : Int)) ((↑(ByteArray.size (S.subS x0 (Int.toNat (Max.max (0 : Int) (x2 - 6))) (Int.toNat x2))) : Int)) ((0 : Int)) (S.mkl (ByteArray.size (S.subS x0 (Int.toNat (Max.max (0 : Int) (x2 - 6))) (Int.toNat x2))) fun j => keys (S.subS x0 (Int.toNat (Max.max (0 : Int) (x2 - 6))) (Int.toNat x2)) j) (x3)))) else (none)) else (none)) else (bif (x1) then (bif (decide (List.length x3 ≤ List.length x3)) then (bif (decide (List.length x3 ≤ 1000000)) then (bif ((↑(List.length (S.trim (S.mkl (List.length x3) fun j => S.at' x3 j))) : Int) == 0) then (some (.inr (false, (0 : Int), []))) else (some (.inr (true, (0 : Int), S.trim (S.mkl (List.length x3) fun j => S.at' x3 j))))) else (none)) else (none)) else (bif (decide (List.length x3 ≤ List.length x3)) then (bif (decide (List.length x3 ≤ 1000000)) then (bif ((↑(List.length (S.trim (S.mkl (List.length x3) fun j => S.at' x3 j))) : Int) == 0) then (some (.inr (false, (0 : Int), []))) else (some (.inr (false, (0 : Int), S.trim (S.mkl (List.length x3) fun j => S.at' x3 j))))) else (none)) else (none))) | .h1 x0 x1 x2 x3 x4 x5 x6 x7 => bif (decide (x5 < x4)) then (bif (decide ((0 : Int) ≤ x5 ∧ x5 < (↑(List.length x6) : Int))) then (bif (decide (Int.toNat x5 < List.length x6)) then (bif (lim .i64 (x3 * 10)) then (bif (lim .u8 (S.at' x6 (Int.toNat x5) - 48)) then (bif (lim .i64 (S.at' x6 (Int.toNat x5) - 48)) then (bif (lim .i64 (x3 * 10 + (S.at' x6 (Int.toNat x5) - 48))) then (bif (lim .i64 (x5 + 1)) then (some (.inl (.h1 (x0) (x1) (x2) (x3 * 10 + (S.at' x6 (Int.toNat x5) - 48)) (x4) (x5 + 1) (x6) (x7)))) else (none)) else (none)) else (none)) else (none)) else (none)) else (none)) else (none)) else (bif (decide (List.length x7 + 1 ≤ 1000000)) then (bif (decide (List.length x7 ≤ List.length x7)) then (bif (lim .i64 (x2 - 6)) then (some (.inl (.h0 (x0) (x1) (x2 - 6) (S.snoc x7 x3)))) else (none)) else (none)) else (none))
noncomputable def p40 (st : ByteArray) : Option (St40 ⊕ Rt40) := bif (decide ((↑(ByteArray.size st) : Int) ≥ 1)) then (bif (decide ((0 : Int) ≤ Option.getD Option.none (0 : Int) ∧ (0 : Int) ≤ 1 ∧ (1 : Int) ≤ (↑(ByteArray.size st) : Int))) then (bif (S.eqS (S.subS st (0) (1)) (ByteArray.mk #[(45 : UInt8)])) then (bif (decide ((0 : Int) ≤ Option.getD (Option.some (↑(ByteArray.size (ByteArray.mk #[(45 : UInt8)])) : Int)) (0 : Int) ∧ (1 : Int) ≤ (↑(ByteArray.size st) : Int) ∧ (↑(ByteArray.size st) : Int) ≤ (↑(ByteArray.size st) : Int))) then (bif (decide (ByteArray.size (S.subS st (1) (ByteArray.size st)) ≤ 1000000)) then (bif (S.natB (S.subS st (1) (ByteArray.size st))) then (bif (S.eqS (S.subS st (1) (ByteArray.size st)) (ByteArray.mk #[(48 : UInt8)])) then (some (.inr (false, (2 : Int), []))) else (bif (decide ((↑(ByteArray.size (S.subS st (1) (ByteArray.size st))) : Int) > 480)) then (some (.inr (false, (3 : Int), []))) else (some (.inl (.h0 (S.subS st (1) (ByteArray.size st)) (true) ((↑(ByteArray.size (S.subS st (1) (ByteArray.size st))) : Int)) ([])))))) else (some (.inr (false, (2 : Int), [])))) else (none)) else (none)) else (bif (decide (ByteArray.size st ≤ 1000000)) then (bif (S.natB st) then (bif (decide ((↑(ByteArray.size st) : Int) > 480)) then (some (.inr (false, (3 : Int), []))) else (some (.inl (.h0 (st) (false) ((↑(ByteArray.size st) : Int)) ([]))))) else (some (.inr (false, (2 : Int), [])))) else (none))) else (none)) else (bif (decide (ByteArray.size st ≤ 1000000)) then (bif (S.natB st) then (bif (decide ((↑(ByteArray.size st) : Int) > 480)) then (some (.inr (false, (3 : Int), []))) else (some (.inl (.h0 (st) (false) ((↑(ByteArray.size st) : Int)) ([]))))) else (some (.inr (false, (2 : Int), [])))) else (none))
noncomputable def Te40 (test : TT) (Kst : KS) (Kret : KR) (st : ByteArray) : Prop := test (decide ((↑(ByteArray.size st) : Int) ≥ 1)) (test (decide ((0 : Int) ≤ Option.getD Option.none (0 : Int) ∧ (0 : Int) ≤ 1 ∧ (1 : Int) ≤ (↑(ByteArray.size st) : Int))) (test (S.eqS (S.subS st (0) (1)) (ByteArray.mk #[(45 : UInt8)])) (test (decide ((0 : Int) ≤ Option.getD (Option.some (↑(ByteArray.size (ByteArray.mk #[(45 : UInt8)])) : Int)) (0 : Int) ∧ (1 : Int) ≤ (↑(ByteArray.size st) : Int) ∧ (↑(ByteArray.size st) : Int) ≤ (↑(ByteArray.size st) : Int))) (test (decide (ByteArray.size (S.subS st (1) (ByteArray.size st)) ≤ 1000000)) (test (S.natB (S.subS st (1) (ByteArray.size st))) (test (S.eqS (S.subS st (1) (ByteArray.size st)) (ByteArray.mk #[(48 : UInt8)])) (Kret (PV.tup [PV.agg [PV.tf false, PV.nils], PV.int .i64 (2 : Int)]) ([[]]) (2)) (test (decide ((↑(ByteArray.size (S.subS st (1) (ByteArray.size st))) : Int) > 480)) (Kret (PV.tup [PV.agg [PV.tf false, PV.nils], PV.int .i64 (3 : Int)]) ([[]]) (2)) (Kst (hd Tryd.f40 0) ([PV.ptr (PA.mk (0) (0) (0) (0)), PV.str (S.subS st (1) (ByteArray.size st)), PV.tf true, PV.nils, PV.int .i64 (↑(ByteArray.size (S.subS st (1) (ByteArray.size st))) : Int), PV.unk, PV.unk, PV.unk, PV.unk]) ([[(0, true, Blk.cells [PV.tf false, PV.nils])]]) (2)))) (Kret (PV.tup [PV.agg [PV.tf false, PV.nils], PV.int .i64 (2 : Int)]) ([[]]) (2))) (False)) (False)) (test (decide (ByteArray.size st ≤ 1000000)) (test (S.natB st) (test (decide ((↑(ByteArray.size st) : Int) > 480)) (Kret (PV.tup [PV.agg [PV.tf false, PV.nils], PV.int .i64 (3 : Int)]) ([[]]) (2)) (Kst (hd Tryd.f40 0) ([PV.ptr (PA.mk (0) (0) (0) (0)), PV.str st, PV.tf false, PV.nils, PV.int .i64 (↑(ByteArray.size st) : Int), PV.unk, PV.unk, PV.unk, PV.unk]) ([[(0, true, Blk.cells [PV.tf false, PV.nils])]]) (2))) (Kret (PV.tup [PV.agg [PV.tf false, PV.nils], PV.int .i64 (2 : Int)]) ([[]]) (2))) (False))) (False)) (test (decide (ByteArray.size st ≤ 1000000)) (test (S.natB st) (test (decide ((↑(ByteArray.size st) : Int) > 480)) (Kret (PV.tup [PV.agg [PV.tf false, PV.nils], PV.int .i64 (3 : Int)]) ([[]]) (2)) (Kst (hd Tryd.f40 0) ([PV.ptr (PA.mk (0) (0) (0) (0)), PV.str st, PV.tf false, PV.nils, PV.int .i64 (↑(ByteArray.size st) : Int), PV.unk, PV.unk, PV.unk, PV.unk]) ([[(0, true, Blk.cells [PV.tf false, PV.nils])]]) (2))) (Kret (PV.tup [PV.agg [PV.tf false, PV.nils], PV.int .i64 (2 : Int)]) ([[]]) (2))) (False))
theorem te40 (test : TT) (Kst : KS) (Kret : KR) (st : ByteArray) : run test Tryd.env true (xp1 test) true 400 ⟨40, [.cd (mkFn Tryd.f40).body], argT 0 [.str st], [[], []], 0⟩ (proj 0 [2, 4, 5, 6, 7, 8, 43, 44, 45] Kst Kret) =
  Te40 test Kst Kret st := by kernel_rfl
noncomputable def T40_0 (test : TT) (Kst : KS) (Kret : KR) (st x0 : ByteArray) (x1 : Bool) (x2 : Int) (x3 : List Int) : Prop := test (decide (x2 > 0)) (test (lim .i64 (x2 - 6)) (test (decide ((0 : Int) ≤ Max.max (0 : Int) (x2 - 6) ∧ Max.max (0 : Int) (x2 - 6) ≤ x2 ∧ x2 ≤ (↑(ByteArray.size x0) : Int))) (Kst (hd Tryd.f40 1) ([PV.ptr (PA.mk (0) (0) (0) (0)), PV.str x0, PV.bool x1, PV.own (1) (1) (List.length x3), PV.int .i64 x2, PV.int .i64 (0 : Int), PV.own (2) (1) (ByteArray.size (S.subS x0 (Int.toNat (Max.max (0 : Int) (x2 - 6))) (Int.toNat x2))), PV.int .i64 (↑(ByteArray.size (S.subS x0 (Int.toNat (Max.max (0 : Int) (x2 - 6))) (Int.toNat x2))) : Int), PV.int .i64 (0 : Int)]) ([[(2, true, Blk.cols (ByteArray.size (S.subS x0 (Int.toNat (Max.max (0 : Int) (x2 - 6))) (Int.toNat x2))) [Col.int .u8 fun j => keys (S.subS x0 (Int.toNat (Max.max (0 : Int) (x2 - 6))) (Int.toNat x2)) j]), (1, true, Blk.cols (List.length x3) [Col.int .i64 fun j => S.at' x3 j]), (0, true, Blk.cells [PV.tf false, PV.nils])]]) (3)) (False)) (False)) (test (x1) (test (decide (List.length x3 ≤ List.length x3)) (test (decide (List.length x3 ≤ 1000000)) (test ((↑(List.length (S.trim (S.mkl (List.length x3) fun j => S.at' x3 j))) : Int) == 0) (Kret (PV.tup [PV.agg [PV.tf false, PV.nils], PV.int .i64 (0 : Int)]) ([[]]) (4)) (Kret (PV.tup [PV.agg [PV.tf true, PV.own (1) (1) (List.length (S.trim (S.mkl (List.length x3) fun j => S.at' x3 j)))], PV.int .i64 (0 : Int)]) ([[(1, true, Blk.cols (List.length (S.trim (S.mkl (List.length x3) fun j => S.at' x3 j))) [Col.int .i64 fun j => S.at' (S.trim (S.mkl (List.length x3) fun j => S.at' x3 j)) j])]]) (4))) (False)) (False)) (test (decide (List.length x3 ≤ List.length x3)) (test (decide (List.length x3 ≤ 1000000)) (test ((↑(List.length (S.trim (S.mkl (List.length x3) fun j => S.at' x3 j))) : Int) == 0) (Kret (PV.tup [PV.agg [PV.tf false, PV.nils], PV.int .i64 (0 : Int)]) ([[]]) (4)) (Kret (PV.tup [PV.agg [PV.tf false, PV.own (1) (1) (List.length (S.trim (S.mkl (List.length x3) fun j => S.at' x3 j)))], PV.int .i64 (0 : Int)]) ([[(1, true, Blk.cols (List.length (S.trim (S.mkl (List.length x3) fun j => S.at' x3 j))) [Col.int .i64 fun j => S.at' (S.trim (S.mkl (List.length x3) fun j => S.at' x3 j)) j])]]) (4))) (False)) (False)))
theorem t40_0 (test : TT) (Kst : KS) (Kret : KR) (st x0 : ByteArray) (x1 : Bool) (x2 : Int) (x3 : List Int) : run test Tryd.env true (xp1 test) true 400 ⟨40, hd Tryd.f40 0, zipT [2, 4, 5, 6, 7, 8, 43, 44, 45] [PV.ptr (PA.mk (0) (0) (0) (0)), PV.str x0, PV.bool x1,
 PV.own (1) (1) (List.length x3), PV.int .i64 x2, PV.unk, PV.unk,
 PV.unk, PV.unk], [[(0, (true, Blk.cells [PV.tf false, PV.nils])), (1, (true, Blk.cols (List.length x3) [Col.int .i64 fun j => S.at' x3 j]))], []], 2⟩ (proj 0 [2, 4, 5, 6, 7, 8, 43, 44, 45] Kst Kret) =
  T40_0 test Kst Kret st x0 x1 x2 x3 := by kernel_rfl
noncomputable def T40_1 (test : TT) (Kst : KS) (Kret : KR) (st x0 : ByteArray) (x1 : Bool) (x2 x3 x4 x5 : Int) (x6 x7 : List Int) : Prop := test (decide (x5 < x4)) (test (decide ((0 : Int) ≤ x5 ∧ x5 < (↑(List.length x6) : Int))) (test (decide (Int.toNat x5 < List.length x6)) (test (lim .i64 (x3 * 10)) (test (lim .u8 (S.at' x6 (Int.toNat x5) - 48)) (test (lim .i64 (S.at' x6 (Int.toNat x5) - 48)) (test (lim .i64 (x3 * 10 + (S.at' x6 (Int.toNat x5) - 48))) (test (lim .i64 (x5 + 1)) (Kst (hd Tryd.f40 1) ([PV.ptr (PA.mk (0) (0) (0) (0)), PV.str x0, PV.bool x1, PV.own (2) (1) (List.length x7), PV.int .i64 x2, PV.int .i64 (x3 * 10 + (S.at' x6 (Int.toNat x5) - 48)), PV.own (1) (1) (List.length x6), PV.int .i64 x4, PV.int .i64 (x5 + 1)]) ([[(1, true, Blk.cols (List.length x6) [Col.int .u8 fun j => S.at' x6 j]), (2, true, Blk.cols (List.length x7) [Col.int .i64 fun j => S.at' x7 j]), (0, true, Blk.cells [PV.tf false, PV.nils])]]) (3)) (False)) (False)) (False)) (False)) (False)) (False)) (False)) (test (decide (List.length x7 + 1 ≤ 1000000)) (test (decide (List.length x7 ≤ List.length x7)) (test (true) (test (lim .i64 (x2 - 6)) (Kst (hd Tryd.f40 0) ([PV.ptr (PA.mk (0) (0) (0) (0)), PV.str x0, PV.bool x1, PV.own (4) (1) (List.length x7 + 1), PV.int .i64 (x2 - 6), PV.int .i64 x3, PV.own (1) (1) (List.length x6), PV.int .i64 x4, PV.int .i64 x5]) ([[(1, true, Blk.cols (List.length x6) [Col.int .u8 fun j => S.at' x6 j]), (4, true, Blk.cols (List.length x7 + 1) [Col.int .i64 fun j => bif Nat.blt j (List.length x7) then S.at' x7 j else x3]), (0, true, Blk.cells [PV.tf false, PV.nils])]]) (5)) (False)) (False)) (False)) (False))
theorem t40_1 (test : TT) (Kst : KS) (Kret : KR) (st x0 : ByteArray) (x1 : Bool) (x2 x3 x4 x5 : Int) (x6 x7 : List Int) : run test Tryd.env true (xp1 test) true 400 ⟨40, hd Tryd.f40 1, zipT [2, 4, 5, 6, 7, 8, 43, 44, 45] [PV.ptr (PA.mk (0) (0) (0) (0)), PV.str x0, PV.bool x1,
 PV.own (2) (1) (List.length x7), PV.int .i64 x2, PV.int .i64 x3,
 PV.own (1) (1) (List.length x6), PV.int .i64 x4, PV.int .i64 x5], [[(0, (true, Blk.cells [PV.tf false, PV.nils])), (1, (true, Blk.cols (List.length x6) [Col.int .u8 fun j => S.at' x6 j])), (2, (true, Blk.cols (List.length x7) [Col.int .i64 fun j => S.at' x7 j]))], []], 3⟩ (proj 0 [2, 4, 5, 6, 7, 8, 43, 44, 45] Kst Kret) =
  T40_1 test Kst Kret st x0 x1 x2 x3 x4 x5 x6 x7 := by kernel_rfl
noncomputable abbrev J40 (st : ByteArray) : Rt40 → Heap := fun r => [newL (0 + 1) ((N40 st) r) ++ []]
attribute [local irreducible] Int.subNatNat in
theorem be40 (st : ByteArray) (Kst : KS) (Kret : KR) (x : St40 ⊕ Rt40) (hS : HS 0 400 ((I40 st)) Kst x) (hR : HR 0 400 ((V40 st)) (J40 st) Kret x) (h : p40 st = some x) : Te40 cond Kst Kret st := by
  unfold Te40
  unfold p40 at h
  refine bif_split h (fun c0 h => bif_split h (fun c1 h => bif_split h (fun c2 h => bif_split h (fun c3 h => bif_split h (fun c4 h => bif_split h (fun c5 h => bif_split h (fun c6 h => ?_) (fun c6 h => bif_split h (fun c7 h => ?_) (fun c7 h => ?_))) (fun c5 h => ?_)) (fun c4 h => ?_)) (fun c3 h => ?_)) (fun c2 h => bif_split h (fun c3 h => bif_split h (fun c4 h => bif_split h (fun c5 h => ?_) (fun c5 h => ?_)) (fun c4 h => ?_)) (fun c3 h => ?_))) (fun c1 h => ?_)) (fun c0 h => bif_split h (fun c1 h => bif_split h (fun c2 h => bif_split h (fun c3 h => ?_) (fun c3 h => ?_)) (fun c2 h => ?_)) (fun c1 h => ?_))
  all_goals first
    | exact ret_at hR _ h (fun n => bif Nat.beq n 1 then 399 else n) rfl rfl rfl (rn_tup ⟨(rn_agg ⟨(rn_bool_tf rfl), (rn_own_nils rfl), trivial⟩), (rn_int rfl), trivial⟩) rfl (entl_fresh (use_own rfl) (fresh_ok rfl) entl_nil)
    | exact no_some h
    | exact stop_at hS _ h (fun n => bif Nat.beq n 0 then 0 else bif Nat.beq n 1 then 399 else n) rfl rfl rfl ⟨(rn_ptr (use_own rfl) rfl rfl), ⟨(rn_str rfl), ⟨(rn_bool_tf rfl), ⟨(rn_own_nils rfl), ⟨(rn_int rfl), ⟨(rn_unk _), ⟨(rn_unk _), ⟨(rn_unk _), ⟨(rn_unk _), trivial⟩⟩⟩⟩⟩⟩⟩⟩⟩ rfl (entl_b (use_own rfl) rfl (by simp) (rb_cells ⟨(rn_tf rfl), rn_nils, trivial⟩) (entl_fresh (use_own rfl) (fresh_ok rfl) entl_nil))
attribute [local irreducible] Int.subNatNat in
theorem b40_0 (st : ByteArray) (Kst : KS) (Kret : KR) (x : St40 ⊕ Rt40) (hS : HS 0 400 ((I40 st)) Kst x) (hR : HR 0 400 ((V40 st)) (J40 st) Kret x) (x0 : ByteArray) (x1 : Bool) (x2 : Int) (x3 : List Int) (h : q40 st (.h0 x0 x1 x2 x3) = some x) : T40_0 cond Kst Kret st x0 x1 x2 x3 := by
  unfold T40_0
  rw [q40] at h
  refine bif_split h (fun c0 h => bif_split h (fun c1 h => bif_split h (fun c2 h => stop_at hS _ h (fun n => bif Nat.beq n 0 then 0 else bif Nat.beq n 1 then 2 else bif Nat.beq n 2 then 1 else n) rfl rfl rfl ⟨(rn_ptr (use_own rfl) rfl rfl), ⟨(rn_str rfl), ⟨(rn_bool rfl), ⟨(rn_own (use_own rfl) rfl rfl), ⟨(rn_int rfl), ⟨(rn_int rfl), ⟨(rn_own (use_own rfl) rfl mkl_len), ⟨(rn_int rfl), ⟨(rn_int rfl), trivial⟩⟩⟩⟩⟩⟩⟩⟩⟩ rfl (entl_b (use_own rfl) rfl (by simp) (rb_cells ⟨(rn_tf rfl), rn_nils, trivial⟩) (entl_new (use_own rfl) rfl (Nat.le_of_eq mkl_len) (rcs_int (fun _ hj => col_mkl (fun (t : Int) => t) hj) rcs_nil) (entl_new (use_own rfl) rfl (Nat.le_of_eq rfl) (rcs_int (fun _ _ => rfl) rcs_nil) entl_nil)))) (fun c2 h => ?_)) (fun c1 h => ?_)) (fun c0 h => bif_split h (fun c1 h => bif_split h (fun c2 h => bif_split h (fun c3 h => bif_split h (fun c4 h => ?_) (fun c4 h => ?_)) (fun c3 h => ?_)) (fun c2 h => ?_)) (fun c1 h => bif_split h (fun c2 h => bif_split h (fun c3 h => bif_split h (fun c4 h => ?_) (fun c4 h => ?_)) (fun c3 h => ?_)) (fun c2 h => ?_)))
  all_goals first
    | exact no_some h
    | exact ret_at hR _ h (fun n => bif Nat.beq n 1 then 399 else n) rfl rfl rfl (rn_tup ⟨(rn_agg ⟨(rn_bool_tf rfl), (rn_own_nils rfl), trivial⟩), (rn_int rfl), trivial⟩) rfl (entl_fresh (use_own rfl) (fresh_ok rfl) entl_nil)
    | exact ret_at hR _ h (fun n => bif Nat.beq n 1 then 1 else n) rfl rfl rfl (rn_tup ⟨(rn_agg ⟨(rn_bool_tf rfl), (rn_own (use_own rfl) rfl rfl), trivial⟩), (rn_int rfl), trivial⟩) rfl (entl_new (use_own rfl) rfl (Nat.le_of_eq rfl) (rcs_int (fun _ _ => rfl) rcs_nil) entl_nil)
attribute [local irreducible] Int.subNatNat in
theorem b40_1 (st : ByteArray) (Kst : KS) (Kret : KR) (x : St40 ⊕ Rt40) (hS : HS 0 400 ((I40 st)) Kst x) (hR : HR 0 400 ((V40 st)) (J40 st) Kret x) (x0 : ByteArray) (x1 : Bool) (x2 x3 x4 x5 : Int) (x6 x7 : List Int) (h : q40 st (.h1 x0 x1 x2 x3 x4 x5 x6 x7) = some x) : T40_1 cond Kst Kret st x0 x1 x2 x3 x4 x5 x6 x7 := by
  unfold T40_1
  rw [q40] at h
  exact bif_split h (fun c0 h => bif_split h (fun c1 h => bif_split h (fun c2 h => bif_split h (fun c3 h => bif_split h (fun c4 h => bif_split h (fun c5 h => bif_split h (fun c6 h => bif_split h (fun c7 h => stop_at hS _ h (fun n => bif Nat.beq n 0 then 0 else bif Nat.beq n 1 then 1 else bif Nat.beq n 2 then 2 else n) rfl rfl rfl ⟨(rn_ptr (use_own rfl) rfl rfl), ⟨(rn_str rfl), ⟨(rn_bool rfl), ⟨(rn_own (use_own rfl) rfl rfl), ⟨(rn_int rfl), ⟨(rn_int rfl), ⟨(rn_own (use_own rfl) rfl rfl), ⟨(rn_int rfl), ⟨(rn_int rfl), trivial⟩⟩⟩⟩⟩⟩⟩⟩⟩ rfl (entl_b (use_own rfl) rfl (by simp) (rb_cells ⟨(rn_tf rfl), rn_nils, trivial⟩) (entl_new (use_own rfl) rfl (Nat.le_of_eq rfl) (rcs_int (fun _ _ => rfl) rcs_nil) (entl_new (use_own rfl) rfl (Nat.le_of_eq rfl) (rcs_int (fun _ _ => rfl) rcs_nil) entl_nil)))) (fun c7 h => no_some h)) (fun c6 h => no_some h)) (fun c5 h => no_some h)) (fun c4 h => no_some h)) (fun c3 h => no_some h)) (fun c2 h => no_some h)) (fun c1 h => no_some h)) (fun c0 h => bif_split h (fun c1 h => bif_split h (fun c2 h => cond_yes rfl (bif_split h (fun c3 h => stop_at hS _ h (fun n => bif Nat.beq n 0 then 0 else bif Nat.beq n 1 then 4 else n) rfl rfl rfl ⟨(rn_ptr (use_own rfl) rfl rfl), ⟨(rn_str rfl), ⟨(rn_bool rfl), ⟨(rn_own (use_own rfl) rfl (snoc_len' rfl)), ⟨(rn_int rfl), ⟨(rn_unk _), ⟨(rn_unk _), ⟨(rn_unk _), ⟨(rn_unk _), trivial⟩⟩⟩⟩⟩⟩⟩⟩⟩ rfl (entl_b (use_own rfl) rfl (by simp) (rb_cells ⟨(rn_tf rfl), rn_nils, trivial⟩) (entl_new (use_own rfl) rfl (Nat.le_of_eq (snoc_len' rfl)) (rcs_int (col_snoc' (fun (t : Int) => t) rfl (fun _ _ => rfl)) rcs_nil) entl_nil))) (fun c3 h => no_some h))) (fun c2 h => no_some h)) (fun c1 h => no_some h))
theorem a40 (st : ByteArray) {r : Rt40} (h : Goes ((q40 st)) ((p40 st)) r) : CallR Tryd.prog 40 [.str st] [[]] 0 ((V40 st) r) ((J40 st) r) 400 ∧ ∃ F, Tryd.prog.funcs[40]? = some F ∧ F.body.isSome = true ∧ (F.name == "runtime.NumGoroutine") = false := by
  refine dec_calls (f := 40) (lo := 0) (hi := 400) Tryd.envOk Tryd.mixed xp1_ok ((I40 st)) ((V40 st)) (J40 st) (fn := mkFn Tryd.f40) (ts := [2, 4, 5, 6, 7, 8, 43, 44, 45]) (n := 400) rfl (by decide) (by simp) (names_of rfl) ?_ ?_ ?_ h
  · intro s; cases s <;> exact ⟨hd_ok _ _, by simp [I40], names_of rfl, Nat.le_of_ble_eq_true rfl⟩
  · intro Kst Kret x hS hR h
    exact Holds.eq (te40 cond Kst Kret st) (be40 st Kst Kret x hS hR h)
  · intro Kst Kret x hS hR s h
    cases s with
    | h0 x0 x1 x2 x3 => exact Holds.eq (t40_0 cond Kst Kret st x0 x1 x2 x3) (b40_0 st Kst Kret x hS hR x0 x1 x2 x3 h)
    | h1 x0 x1 x2 x3 x4 x5 x6 x7 => exact Holds.eq (t40_1 cond Kst Kret st x0 x1 x2 x3 x4 x5 x6 x7) (b40_1 st Kst Kret x hS hR x0 x1 x2 x3 x4 x5 x6 x7 h)
noncomputable abbrev w40 {α : Type} (g : ByteArray → α) (x : ByteArray × Unit) : α := g x.1
noncomputable def k40  : Con := ⟨40, [.one (.plain (.str))], w40 (fun st => decide (st.size ≤ 1000000)), w40 (fun st => (V40 st) ((S.parS st).1, (S.parS st).2.1, (S.parS st).2.2)), w40 (fun st => (N40 st) ((S.parS st).1, (S.parS st).2.1, (S.parS st).2.2)), fun _ _ => .dead⟩
theorem s40f (st w : ByteArray) (ng : Bool) (x : Int) (L : List Int) (hx : x ≤ 0) (hl : L.length ≤ 1000) (hd : ∀ y ∈ L, 0 ≤ y ∧ y < 1000000) (hv : S.valL L = S.decW w w.size) : Comes (q40 st) (.h0 w ng x L) (S.sgB ng (S.decW w w.size), 0, S.grp (S.decW w w.size)) := by
  have v0 := valL_nn' hd
  rw [← hv]
  apply Comes.of
  show Goes _ _ _
  rw [q40]
  skip
  have e1 : S.trim (S.mkl L.length fun j => S.at' L j) = S.grp (S.valL L) := by rw [mkl1_at, trim_grp hd]
  simp only [e1]
  refine goes_no (decide_eq_false (by omega)) ?_
  cases ng
  refine goes_no rfl ?_
  rotate_left
  refine goes_ok rfl ?_
  all_goals
    refine goes_ok (decide_eq_true (Nat.le_refl _)) ?_
    refine goes_ok (decide_eq_true (by omega)) ?_
    by_cases h0 : ((S.grp (S.valL L)).length : Int) = 0
    · refine goes_ok (by rw [h0]; rfl) (goes_inr.mpr ?_)
      rw [(fin_q v0 h0).1, (fin_q (c := true) v0 h0).2]
    · refine goes_no (by simpa using h0) (goes_inr.mpr ?_)
      rw [fin_q2 h0]
theorem s40i (st w : ByteArray) (ng : Bool) (a e : Nat) (L : List Int) (res : Rt40) (ha : a ≤ e ∧ e - a ≤ 6 ∧ e ≤ w.size ∧ e ≤ 1000) (hl : L.length ≤ 1000) (hw : ∀ j, j < w.size → 48 ≤ keys w j ∧ keys w j ≤ 57) (hC : Comes (q40 st) (.h0 w ng ((e : Int) - 6) (S.snoc L (S.decN (fun j => keys w (a + j) - 48) (e - a)))) res) : ∀ (k i : Nat), i + k = e - a → Comes (q40 st) (.h1 w ng (e : Int) (S.decN (fun j => keys w (a + j) - 48) i) ((S.subS w a e).size : Int) (i : Int) (S.mkl (S.subS w a e).size fun j => keys (S.subS w a e) j) L) res := by
  have hs : (S.subS w a e).size = e - a := sub_size ha.2.2.1
  intro k
  induction k with
  | zero =>
    intro i hi
    obtain rfl : i = e - a := by omega
    generalize S.decN (fun j => keys w (a + j) - 48) (e - a) = d at *
    apply Comes.of
    show Goes _ _ _
    rw [q40]
    skip
    simp only [hs]
    repeat' (first | with_reducible refine goes_if (fun h => ?_) (fun h => ?_) <;> (try simp only [SH] at h) | exact goes_none.mpr (by omega))
    all_goals first | (exfalso; omega) | exact hC
  | succ k ih =>
    intro i hi
    have ih := ih (i + 1) (by omega)
    have hd := hw (a + i) (by omega)
    have db := decN_b (f := fun j => keys w (a + j) - 48) (n := i) fun j hj => by have := hw (a + j) (by omega); (try dsimp only); omega
    have pb := p10_6 (n := i) (by omega)
    have e1 : S.decN (fun j => keys w (a + j) - 48) (i + 1) = S.decN (fun j => keys w (a + j) - 48) i * 10 + (keys w (a + i) - 48) := rfl
    rw [e1] at ih
    have ek : S.at' (S.mkl (S.subS w a e).size fun j => keys (S.subS w a e) j) i = keys w (a + i) := by rw [at_mkl (by omega)]; exact keys_sub ha.2.2.1 (by omega)
    generalize S.decN (fun j => keys w (a + j) - 48) i = d at *
    apply Comes.of
    show Goes _ _ _
    rw [q40]
    skip
    simp only [Int.toNat_natCast, ek, mkl_len]
    simp only [hs] at ih ⊢
    repeat' (first | with_reducible refine goes_if (fun h => ?_) (fun h => ?_) <;> (try simp only [SH, limu8] at h) | exact goes_none.mpr (by omega))
    all_goals first | (exfalso; omega) | exact ih
theorem s40o (st w : ByteArray) (ng : Bool) (hz : w.size ≤ 480) (hw : ∀ j, j < w.size → 48 ≤ keys w j ∧ keys w j ≤ 57) : ∀ (k e : Nat) (L : List Int), e ≤ k → e ≤ w.size → L.length + e ≤ 600 → (∀ y ∈ L, 0 ≤ y ∧ y < 1000000) → S.valL L + S.pw L.length * S.decW w e = S.decW w w.size → Comes (q40 st) (.h0 w ng (e : Int) L) (S.sgB ng (S.decW w w.size), 0, S.grp (S.decW w w.size)) := by
  intro k
  induction k with
  | zero =>
    intro e L hk he hl hd hv
    obtain rfl : e = 0 := by omega
    exact s40f st w ng _ L (by omega) (by omega) hd (by rw [← hv]; show S.valL L = S.valL L + S.pw L.length * 0; omega)
  | succ k ih =>
    intro e L hk he hl hd hv
    by_cases h0 : e = 0
    · subst h0
      exact s40f st w ng _ L (by omega) (by omega) hd (by rw [← hv]; show S.valL L = S.valL L + S.pw L.length * 0; omega)
    · have cut := decW_cut (w := w) (a := e - 6) (e := e) (by omega)
      have db := decN_b (f := fun j => keys w (e - 6 + j) - 48) (n := e - (e - 6)) fun j hj => by have := hw (e - 6 + j) (by omega); (try dsimp only); omega
      have pb := p10_6 (n := e - (e - 6)) (by omega)
      have hC : Comes (q40 st) (.h0 w ng ((e : Int) - 6) (S.snoc L (S.decN (fun j => keys w (e - 6 + j) - 48) (e - (e - 6))))) (S.sgB ng (S.decW w w.size), 0, S.grp (S.decW w w.size)) := by
        by_cases h6 : 6 ≤ e
        · have p6 : pT (e - (e - 6)) = 1000000 := by rw [show e - (e - 6) = 6 by omega]; decide
          rw [p6] at cut
          have := ih (e - 6) (S.snoc L (S.decN (fun j => keys w (e - 6 + j) - 48) (e - (e - 6)))) (by omega) (by omega) (by rw [snoc_len]; omega) (dig_snoc hd (by omega)) (by
            rw [← hv, cut, snoc_eq, valL_snoc, List.length_append]
            show _ + S.pw (L.length + 1) * _ = _
            have : S.pw (L.length + 1) = 1000000 * S.pw L.length := rfl
            rw [this, Int.mul_add, Int.mul_assoc, Int.mul_left_comm 1000000, Int.mul_comm 1000000]
            omega)
          rw [show ((e - 6 : Nat) : Int) = (e : Int) - 6 by omega] at this
          exact this
        · refine s40f st w ng _ _ (by omega) (by rw [snoc_len]; omega) (dig_snoc hd (by omega)) ?_
          rw [← hv, cut, snoc_eq, valL_snoc, show e - 6 = 0 by omega]
          show _ = _ + _ * (0 * _ + _)
          rw [Int.zero_mul, Int.zero_add]
      have hm := s40i st w ng (e - 6) e L (S.sgB ng (S.decW w w.size), 0, S.grp (S.decW w w.size)) ⟨by omega, by omega, he, by omega⟩ (by omega) hw hC (e - (e - 6)) 0 (by omega)
      have z : S.decN (fun j => keys w (e - 6 + j) - 48) 0 = 0 := rfl
      rw [z] at hm
      clear hC cut db hv
      generalize (S.sgB ng (S.decW w w.size), 0, S.grp (S.decW w w.size)) = R at *
      apply Comes.of
      show Goes _ _ _
      rw [q40]
      skip
      have e2 : Max.max 0 ((e : Int) - 6) = ((e - 6 : Nat) : Int) := by omega
      simp only [e2, Int.toNat_natCast]
      repeat' (first | with_reducible refine goes_if (fun h => ?_) (fun h => ?_) <;> (try simp only [SH] at h) | exact goes_none.mpr (by omega))
      all_goals first | (exfalso; omega) | exact hm
theorem natB_iff  {w : ByteArray} : S.natB w = true ↔ (w.size ≠ 0 ∧ ¬ (w.size > 1 ∧ keys w 0 = 48)) ∧ S.alD w = true := by
  unfold S.natB
  rw [Bool.and_eq_true, decide_eq_true_eq]
theorem par_t  {w : ByteArray} (h : w.size ≠ 0 ∧ keys w 0 ≠ 48) : S.parW true w = if S.alD w = true then (if w.size > 480 then (false, 3, []) else (S.sgB true (S.decW w w.size), 0, S.grp (S.decW w w.size))) else (false, 2, []) := by
  unfold S.parW
  by_cases ha : S.alD w = true
  · rw [if_pos ⟨natB_iff.mpr ⟨⟨h.1, fun h2 => h.2 h2.2⟩, ha⟩, fun h2 => h.2 h2.2.2⟩, if_pos ha]
  · rw [if_neg (fun h2 => ha (natB_iff.mp h2.1).2), if_neg ha]
theorem par_f  {w : ByteArray} (h : w.size ≠ 0 ∧ ¬ (w.size > 1 ∧ keys w 0 = 48)) : S.parW false w = if S.alD w = true then (if w.size > 480 then (false, 3, []) else (S.sgB false (S.decW w w.size), 0, S.grp (S.decW w w.size))) else (false, 2, []) := by
  unfold S.parW
  by_cases ha : S.alD w = true
  · rw [if_pos ⟨natB_iff.mpr ⟨h, ha⟩, fun h2 => Bool.false_ne_true h2.1⟩, if_pos ha]
  · rw [if_neg (fun h2 => ha (natB_iff.mp h2.1).2), if_neg ha]
theorem par_tn  {w : ByteArray} (h : ¬ (w.size ≠ 0 ∧ keys w 0 ≠ 48)) : S.parW true w = (false, 2, []) := by
  unfold S.parW
  refine if_neg fun h2 => ?_
  have h3 := (natB_iff.mp h2.1).1
  have h4 := h2.2
  simp only [true_and] at h4
  by_cases h5 : keys w 0 = 48
  · exact h4 ⟨by have := h3.2; omega, h5⟩
  · exact h ⟨h3.1, h5⟩
theorem par_fn  {w : ByteArray} (h : ¬ (w.size ≠ 0 ∧ ¬ (w.size > 1 ∧ keys w 0 = 48))) : S.parW false w = (false, 2, []) := by
  unfold S.parW
  exact if_neg fun h2 => h (natB_iff.mp h2.1).1
theorem s40 (st : ByteArray) (hp : st.size ≤ 1000000) : Goes ((q40 st)) ((p40 st)) (((S.parS st).1, (S.parS st).2.1, (S.parS st).2.2)) := by
  show Goes _ _ (S.parS st)
  unfold S.parS S.isM
  have h45 : st.size ≥ 1 → (S.eqS (S.subS st 0 1) (ByteArray.mk #[(45 : UInt8)])) = decide (keys st 0 = 45) := fun h1 => eqS_dec (by
    rw [one_iff, sub_size h1, keys_sub h1 (by omega)]
    exact ⟨fun h => h.2, fun h => ⟨rfl, h⟩⟩)
  have h48 : ∀ w : ByteArray, S.eqS w (ByteArray.mk #[(48 : UInt8)]) = decide (w.size = 1 ∧ keys w 0 = 48) := fun w => eqS_dec one_iff
  have hsz : (ByteArray.mk #[(45 : UInt8)]).size = 1 := rfl
  by_cases hM : st.size > 0 ∧ keys st 0 = 45
  · rw [if_pos (decide_eq_true hM)]
    have h45 := h45 (by omega)
    have hs : (S.subS st 1 st.size).size = st.size - 1 := sub_size (Nat.le_refl _)
    obtain ⟨w, hw⟩ : ∃ w, S.subS st 1 st.size = w := ⟨_, rfl⟩
    rw [hw] at hs ⊢
    have hm := fun (hz : w.size ≤ 480) (ha : S.alD w = true) => s40o st w true hz (alD_iff.mp ha) w.size w.size [] (Nat.le_refl _) (Nat.le_refl _) (by simp; omega) (fun y hy => by cases hy) (by show (0 : Int) + 1 * _ = _; omega)
    unfold p40
    simp only [h45, h48, hw, hsz]
    by_cases hc : w.size ≠ 0 ∧ keys w 0 ≠ 48
    · rw [par_t hc]
      cases hb : S.alD w
      · have hn : S.natB w = false := by
          rw [Bool.eq_false_iff]; intro h; rw [(natB_iff.mp h).2] at hb; cases hb
        rw [if_neg Bool.false_ne_true]
        simp only [hn]
        repeat' (first | with_reducible refine goes_if (fun h => ?_) (fun h => ?_) <;> (try simp only [SH] at h) | exact goes_none.mpr (by omega))
        all_goals first | (exfalso; omega) | exact goes_inr.mpr rfl
      · have hn : S.natB w = true := natB_iff.mpr ⟨⟨hc.1, fun h => hc.2 h.2⟩, hb⟩
        have hm := fun hz => hm hz hb
        rw [if_pos rfl]
        simp only [hn]
        by_cases h4 : w.size > 480
        · rw [if_pos h4]
          repeat' (first | with_reducible refine goes_if (fun h => ?_) (fun h => ?_) <;> (try simp only [SH] at h) | exact goes_none.mpr (by omega))
          all_goals first | (exfalso; omega) | exact goes_inr.mpr rfl
        · rw [if_neg h4]
          have hm := hm (by omega)
          generalize (S.sgB true (S.decW w w.size), (0 : Int), S.grp (S.decW w w.size)) = R at *
          repeat' (first | with_reducible refine goes_if (fun h => ?_) (fun h => ?_) <;> (try simp only [SH] at h) | exact goes_none.mpr (by omega))
          all_goals first | (exfalso; omega) | exact hm
    · rw [par_tn hc]
      clear hm
      cases hb : S.natB w
      repeat' (first | with_reducible refine goes_if (fun h => ?_) (fun h => ?_) <;> (try simp only [SH] at h) | exact goes_none.mpr (by omega))
      all_goals first | (exfalso; omega) | exact goes_inr.mpr rfl | (exfalso; have := (natB_iff.mp hb).1; omega)
  · rw [if_neg (fun h => hM (of_decide_eq_true h))]
    have hm := fun (hz : st.size ≤ 480) (ha : S.alD st = true) => s40o st st false hz (alD_iff.mp ha) st.size st.size [] (Nat.le_refl _) (Nat.le_refl _) (by simp; omega) (fun y hy => by cases hy) (by show (0 : Int) + 1 * _ = _; omega)
    unfold p40
    simp only [hsz]
    by_cases hc : st.size ≠ 0 ∧ ¬ (st.size > 1 ∧ keys st 0 = 48)
    · have h45 := h45 (by omega)
      simp only [h45]
      rw [par_f hc]
      cases hb : S.alD st
      · have hn : S.natB st = false := by
          rw [Bool.eq_false_iff]; intro h; rw [(natB_iff.mp h).2] at hb; cases hb
        rw [if_neg Bool.false_ne_true]
        simp only [hn]
        repeat' (first | with_reducible refine goes_if (fun h => ?_) (fun h => ?_) <;> (try simp only [SH] at h) | exact goes_none.mpr (by omega))
        all_goals first | (exfalso; omega) | exact goes_inr.mpr rfl
      · have hn : S.natB st = true := natB_iff.mpr ⟨hc, hb⟩
        have hm := fun hz => hm hz hb
        rw [if_pos rfl]
        simp only [hn]
        by_cases h4 : st.size > 480
        · rw [if_pos h4]
          repeat' (first | with_reducible refine goes_if (fun h => ?_) (fun h => ?_) <;> (try simp only [SH] at h) | exact goes_none.mpr (by omega))
          all_goals first | (exfalso; omega) | exact goes_inr.mpr rfl
        · rw [if_neg h4]
          have hm := hm (by omega)
          generalize (S.sgB false (S.decW st st.size), (0 : Int), S.grp (S.decW st st.size)) = R at *
          repeat' (first | with_reducible refine goes_if (fun h => ?_) (fun h => ?_) <;> (try simp only [SH] at h) | exact goes_none.mpr (by omega))
          all_goals first | (exfalso; omega) | exact hm
    · rw [par_fn hc]
      have hn : S.natB st = false := by
        rw [Bool.eq_false_iff]; intro h; exact hc (natB_iff.mp h).1
      simp only [hn]
      clear hm
      by_cases hz : st.size ≥ 1
      · simp only [h45 hz]
        repeat' (first | with_reducible refine goes_if (fun h => ?_) (fun h => ?_) <;> (try simp only [SH] at h) | exact goes_none.mpr (by omega))
        all_goals first | (exfalso; omega) | exact goes_inr.mpr rfl
      · refine goes_no (decide_eq_false (by omega)) ?_
        repeat' (first | with_reducible refine goes_if (fun h => ?_) (fun h => ?_) <;> (try simp only [SH] at h) | exact goes_none.mpr (by omega))
        all_goals first | (exfalso; omega) | exact goes_inr.mpr rfl
theorem k40_ok  : k40.ok Tryd.prog := by
  intro x hx
  obtain ⟨st, _⟩ := x
  obtain ⟨h1, h2⟩ := a40 st (s40 st (of_dec hx rfl))
  exact ⟨⟨400, (by decide : 0 + 1 + 1 ≤ 400), h1⟩, h2⟩
theorem dec_inj  {f g : Nat → Int} : ∀ {n : Nat}, (∀ j, j < n → 0 ≤ f j ∧ f j ≤ 9) → (∀ j, j < n → 0 ≤ g j ∧ g j ≤ 9) → S.decN f n = S.decN g n → ∀ j, j < n → f j = g j
  | 0, _, _, _, j, hj => by omega
  | n + 1, hf, hg, h, j, hj => by
    simp only [S.decN] at h
    have h1 := hf n (by omega)
    have h2 := hg n (by omega)
    by_cases hn : j = n
    · subst hn; omega
    · exact dec_inj (n := n) (fun j h => hf j (by omega)) (fun j h => hg j (by omega)) (by omega) j (by omega)
theorem dec_lead  {f : Nat → Int} {n : Nat} (h : ∀ j, j < n + 1 → 0 ≤ f j ∧ f j ≤ 9) : S.decN f (n + 1) = f 0 * pT n + S.decN (fun j => f (1 + j)) n := by
  have := decN_add (f := f) (a := 1) (c := n)
  rw [Nat.add_comm 1 n] at this
  rw [this]
  show (0 * 10 + f 0) * _ + _ = _
  rw [Int.zero_mul, Int.zero_add]
theorem p10_mono  : ∀ {a c : Nat}, a ≤ c → pT a ≤ pT c
  | a, 0, h => by obtain rfl : a = 0 := by omega
                  exact Int.le_refl _
  | a, c + 1, h => by
    by_cases hac : a = c + 1
    · subst hac; exact Int.le_refl _
    · have := p10_mono (a := a) (c := c) (by omega)
      have := p10_pos (n := c)
      show pT a ≤ 10 * pT c
      omega
theorem nat_dig  {w : ByteArray} (h : S.natB w = true) : (w.size ≠ 0 ∧ ¬ (w.size > 1 ∧ keys w 0 = 48)) ∧ ∀ j, j < w.size → 0 ≤ keys w j - 48 ∧ keys w j - 48 ≤ 9 := by
  obtain ⟨h1, h2⟩ := natB_iff.mp h
  exact ⟨h1, fun j hj => by have := alD_iff.mp h2 j hj; omega⟩
theorem nat_ge  {w : ByteArray} (h : S.natB w = true) (h2 : w.size > 1) : pT (w.size - 1) ≤ S.decW w w.size := by
  obtain ⟨h1, hd⟩ := nat_dig h
  have e := dec_lead (f := fun j => keys w j - 48) (n := w.size - 1) (fun j hj => hd j (by omega))
  rw [show w.size - 1 + 1 = w.size by omega] at e
  have e : S.decW w w.size = (keys w 0 - 48) * pT (w.size - 1) + S.decN (fun j => keys w (1 + j) - 48) (w.size - 1) := e
  have b0 := decN_b (f := fun j => keys w (1 + j) - 48) (n := w.size - 1) fun j hj => hd (1 + j) (by omega)
  have d0 := hd 0 (by omega)
  have : 1 * pT (w.size - 1) ≤ (keys w 0 - 48) * pT (w.size - 1) := Int.mul_le_mul_of_nonneg_right (by omega) (by have := p10_pos (n := w.size - 1); omega)
  omega
theorem nat_uniq  {w u : ByteArray} (h : S.natB w = true) (h2 : S.natB u = true) (he : S.decW w w.size = S.decW u u.size) : w = u := by
  obtain ⟨w1, wd⟩ := nat_dig h
  obtain ⟨u1, ud⟩ := nat_dig h2
  have wb := (decN_b (f := fun j => keys w j - 48) (n := w.size) wd).2
  have ub := (decN_b (f := fun j => keys u j - 48) (n := u.size) ud).2
  have wb : S.decW w w.size < pT w.size := wb
  have ub : S.decW u u.size < pT u.size := ub
  have hs : w.size = u.size := by
    rcases Nat.lt_trichotomy w.size u.size with hl | hl | hl
    · have := nat_ge h2 (by omega)
      have := p10_mono (a := w.size) (c := u.size - 1) (by omega)
      omega
    · exact hl
    · have := nat_ge h (by omega)
      have := p10_mono (a := u.size) (c := w.size - 1) (by omega)
      omega
  refine keys_ext hs fun j hj => ?_
  have he : S.decN (fun j => keys w j - 48) w.size = S.decN (fun j => keys u j - 48) w.size := by
    have : S.decW u u.size = S.decN (fun j => keys u j - 48) w.size := by rw [hs]; rfl
    rw [← this, ← he]; rfl
  have := dec_inj wd (fun j hj => ud j (by omega)) he j hj
  (try dsimp only at this)
  omega
namespace S
noncomputable def numW (V : Int) : ByteArray := @dite _ (∃ w, natB w = true ∧ decW w w.size = V) (Classical.propDecidable _) (fun h => Classical.choose h) (fun _ => ByteArray.mk #[])
noncomputable def fmtW (ng : Bool) (V : Int) : ByteArray := if ng = true then (ByteArray.mk #[(45 : UInt8)]) ++ numW V else numW V
noncomputable def fmtS (n1 : Bool) (n : Nat) (t : Nat → Int) : ByteArray × Int := if okI n1 n t = true then (fmtW n1 (val n t), 0) else (ByteArray.mk #[], 1)
end S
theorem num_is  {w : ByteArray} {V : Int} (h : S.natB w = true) (hv : S.decW w w.size = V) : S.numW V = w := by
  have hx : ∃ w, S.natB w = true ∧ S.decW w w.size = V := ⟨w, h, hv⟩
  unfold S.numW
  rw [dif_pos hx]
  have := Classical.choose_spec hx
  exact nat_uniq this.1 h (by rw [this.2, hv])
theorem nat_zero  : S.natB (ByteArray.mk #[(48 : UInt8)]) = true ∧ S.decW (ByteArray.mk #[(48 : UInt8)]) (ByteArray.mk #[(48 : UInt8)]).size = 0 := by decide
inductive St39 where
  | h0 (x0 : ByteArray) (x1 : Int)
  | h1 (x0 : ByteArray) (x1 : Int) (x2 : Int) (x3 : Int)
  | h2 (x0 : ByteArray)
abbrev Rt39  := ByteArray × Int
noncomputable def V39 (n1 : Bool) (ap np mp : Nat) (tp : NI) (r : Rt39) : PV := PV.tup [PV.str r.1, PV.int .i64 r.2]
noncomputable def N39 (n1 : Bool) (ap np mp : Nat) (tp : NI) (r : Rt39) : List Blk := []
noncomputable def I39 (n1 : Bool) (ap np mp : Nat) (tp : NI) : St39 → Hd
  | .h0 x0 x1 => ⟨hd Tryd.f39 0, [PV.ptr (PA.mk (1) (0) (0) (0)), PV.str x0,
 PV.int .i64 x1, PV.unk, PV.unk], [[(1, (true, Blk.cells [PV.bool n1, PV.loose (PA.mk (0) (1) ap (0)) np]))], [(0, (false, .cols mp [.int .i64 tp]))]], 2⟩
  | .h1 x0 x1 x2 x3 => ⟨hd Tryd.f39 1, [PV.ptr (PA.mk (1) (0) (0) (0)), PV.str x0,
 PV.int .i64 x1, PV.int .i64 x2, PV.int .i64 x3], [[(1, (true, Blk.cells [PV.bool n1, PV.loose (PA.mk (0) (1) ap (0)) np]))], [(0, (false, .cols mp [.int .i64 tp]))]], 2⟩
  | .h2 x0 => ⟨hd Tryd.f39 2, [PV.ptr (PA.mk (1) (0) (0) (0)), PV.str x0, PV.unk,
 PV.unk, PV.unk], [[(1, (true, Blk.cells [PV.bool n1, PV.loose (PA.mk (0) (1) ap (0)) np]))], [(0, (false, .cols mp [.int .i64 tp]))]], 2⟩
noncomputable def q39 (n1 : Bool) (ap np mp : Nat) (tp : NI) : St39 → Option (St39 ⊕ Rt39) | .h0 x0 x1 => bif (decide (x1 < (↑np : Int))) then (bif (decide ((0 : Int) ≤ x1 ∧ x1 < (↑np : Int))) then (bif (decide (Int.toNat x1 + ap < mp)) then (some (.inl (.h1 (x0) (x1) (tp (Int.toNat x1 + ap)) ((0 : Int))))) else (none)) else (none)) else (some (.inl (.h2 (x0)))) | .h1 x0 x1 x2 x3 => bif (decide (x3 < 6)) then (bif (lim .i64 ((48 : Int) + Int.tmod x2 (10 : Int))) then (bif (decide ((↑(ByteArray.size (S.ofB (fun (x : Nat) => IntKind.wrap .u8 ((48 : Int) + Int.tmod x2 (10 : Int))) (1)) + ByteArray.size x0) : Int) ≤ 9223372036854775807)) then (bif (lim .i64 (Int.tdiv x2 (10 : Int))) then (bif (lim .i64 (x3 + 1)) then (some (.inl (.h1 (S.ofB (fun (x : Nat) => IntKind.wrap .u8 ((48 : Int) + Int.tmod x2 (10 : Int))) (1) ++ x0) (x1) (Int.tdiv x2 (10 : Int)) (x3 + 1)))) else (none)) else (none)) else (none)) else (none)) else (bif (lim .i64 (x1 + 1)) then (some (.inl (.h0 (x0) (x1 + 1)))) else (none)) | .h2 x0 => bif (decide ((↑(ByteArray.size x0) : Int) > 1)) then (bif (decide ((0 : Int) ≤ 0 ∧ (0 : Int) < (↑(ByteArray.size x0) : Int))) then (bif (keys x0 (0) == 48) then (bif (decide ((0 : Int) ≤ Option.getD (Option.some (1 : Int)) (0 : Int) ∧ (1 : Int) ≤ (↑(ByteArray.size x0) : Int) ∧ (↑(ByteArray.size x0) : Int) ≤ (↑(ByteArray.size x0) : Int))) then (some (.inl (.h2 (S.subS x0 (1) (ByteArray.size x0))))) else (none)) else (bif (S.eqS x0 (ByteArray.mk #[])) then (some (.inr (ByteArray.mk #[(48 : UInt8)], (0 : Int)))) else (bif (n1) then (bif (decide ((↑(1 + ByteArray.size x0) : Int) ≤ 9223372036854775807)) then (some (.inr (ByteArray.mk #[(45 : UInt8)] ++ x0, (0 : Int)))) else (none)) else (some (.inr (x0, (0 : Int))))))) else (none)) else (bif (S.eqS x0 (ByteArray.mk #[])) then (some (.inr (ByteArray.mk #[(48 : UInt8)], (0 : Int)))) else (bif (n1) then (bif (decide ((↑(1 + ByteArray.size x0) : Int) ≤ 9223372036854775807)) then (some (.inr (ByteArray.mk #[(45 : UInt8)] ++ x0, (0 : Int)))) else (none)) else (some (.inr (x0, (0 : Int))))))
noncomputable def p39 (n1 : Bool) (ap np mp : Nat) (tp : NI) : Option (St39 ⊕ Rt39) := bif (decide (ap + np ≤ mp ∧ np ≤ 1000000)) then (bif (S.okI n1 np fun j => tp (j + ap)) then (some (.inl (.h0 (ByteArray.mk #[]) ((0 : Int))))) else (some (.inr (ByteArray.mk #[], (1 : Int))))) else (none)
noncomputable def Te39 (test : TT) (Kst : KS) (Kret : KR) (n1 : Bool) (ap np mp : Nat) (tp : NI) : Prop := test (decide (ap + np ≤ mp ∧ np ≤ 1000000)) (test (S.okI n1 np fun j => tp (j + ap)) (Kst (hd Tryd.f39 0) ([PV.ptr (PA.mk (1) (0) (0) (0)), PV.str (ByteArray.mk #[]), PV.int .i64 (0 : Int), PV.unk, PV.unk]) ([[(0, false, Blk.cols mp [Col.int .i64 tp]), (1, true, Blk.cells [PV.bool n1, PV.loose (PA.mk (0) (1) ap (0)) np])]]) (3)) (Kret (PV.tup [PV.str (ByteArray.mk #[]), PV.int .i64 (1 : Int)]) ([[(0, false, Blk.cols mp [Col.int .i64 tp])]]) (3))) (False)
theorem te39 (test : TT) (Kst : KS) (Kret : KR) (n1 : Bool) (ap np mp : Nat) (tp : NI) : run test Tryd.env true (xq1 test) true 400 ⟨39, [.cd (mkFn Tryd.f39).body], argT 0 [.agg [.bool n1, .loose ⟨0, 1, ap, 0⟩ np]], [[], [(0, (false, .cols mp [.int .i64 tp]))]], 1⟩ (proj 1 [1, 4, 5, 6, 7] Kst Kret) =
  Te39 test Kst Kret n1 ap np mp tp := by kernel_rfl
noncomputable def T39_0 (test : TT) (Kst : KS) (Kret : KR) (n1 : Bool) (ap np mp : Nat) (tp : NI) (x0 : ByteArray) (x1 : Int) : Prop := test (decide (x1 < (↑np : Int))) (test (decide ((0 : Int) ≤ x1 ∧ x1 < (↑np : Int))) (test (decide (Int.toNat x1 + ap < mp)) (Kst (hd Tryd.f39 1) ([PV.ptr (PA.mk (1) (0) (0) (0)), PV.str x0, PV.int .i64 x1, PV.int .i64 (tp (Int.toNat x1 + ap)), PV.int .i64 (0 : Int)]) ([[(0, false, Blk.cols mp [Col.int .i64 tp]), (1, true, Blk.cells [PV.bool n1, PV.loose (PA.mk (0) (1) ap (0)) np])]]) (2)) (False)) (False)) (Kst (hd Tryd.f39 2) ([PV.ptr (PA.mk (1) (0) (0) (0)), PV.str x0, PV.int .i64 x1, PV.unk, PV.unk]) ([[(0, false, Blk.cols mp [Col.int .i64 tp]), (1, true, Blk.cells [PV.bool n1, PV.loose (PA.mk (0) (1) ap (0)) np])]]) (2))
theorem t39_0 (test : TT) (Kst : KS) (Kret : KR) (n1 : Bool) (ap np mp : Nat) (tp : NI) (x0 : ByteArray) (x1 : Int) : run test Tryd.env true (xq1 test) true 400 ⟨39, hd Tryd.f39 0, zipT [1, 4, 5, 6, 7] [PV.ptr (PA.mk (1) (0) (0) (0)), PV.str x0,
 PV.int .i64 x1, PV.unk, PV.unk], [[(1, (true, Blk.cells [PV.bool n1, PV.loose (PA.mk (0) (1) ap (0)) np]))], [(0, (false, .cols mp [.int .i64 tp]))]], 2⟩ (proj 1 [1, 4, 5, 6, 7] Kst Kret) =
  T39_0 test Kst Kret n1 ap np mp tp x0 x1 := by kernel_rfl
noncomputable def T39_1 (test : TT) (Kst : KS) (Kret : KR) (n1 : Bool) (ap np mp : Nat) (tp : NI) (x0 : ByteArray) (x1 x2 x3 : Int) : Prop := test (decide (x3 < 6)) (test (false) (False) (test (lim .i64 ((48 : Int) + Int.tmod x2 (10 : Int))) (test (true) (test (decide ((↑(ByteArray.size (S.ofB (fun (x : Nat) => IntKind.wrap .u8 ((48 : Int) + Int.tmod x2 (10 : Int))) (1)) + ByteArray.size x0) : Int) ≤ 9223372036854775807)) (test (false) (False) (test (lim .i64 (Int.tdiv x2 (10 : Int))) (test (lim .i64 (x3 + 1)) (Kst (hd Tryd.f39 1) ([PV.ptr (PA.mk (1) (0) (0) (0)), PV.str (S.ofB (fun (x : Nat) => IntKind.wrap .u8 ((48 : Int) + Int.tmod x2 (10 : Int))) (1) ++ x0), PV.int .i64 x1, PV.int .i64 (Int.tdiv x2 (10 : Int)), PV.int .i64 (x3 + 1)]) ([[(0, false, Blk.cols mp [Col.int .i64 tp]), (1, true, Blk.cells [PV.bool n1, PV.loose (PA.mk (0) (1) ap (0)) np])]]) (3)) (False)) (False))) (False)) (False)) (False))) (test (lim .i64 (x1 + 1)) (Kst (hd Tryd.f39 0) ([PV.ptr (PA.mk (1) (0) (0) (0)), PV.str x0, PV.int .i64 (x1 + 1), PV.int .i64 x2, PV.int .i64 x3]) ([[(0, false, Blk.cols mp [Col.int .i64 tp]), (1, true, Blk.cells [PV.bool n1, PV.loose (PA.mk (0) (1) ap (0)) np])]]) (2)) (False))
theorem t39_1 (test : TT) (Kst : KS) (Kret : KR) (n1 : Bool) (ap np mp : Nat) (tp : NI) (x0 : ByteArray) (x1 x2 x3 : Int) : run test Tryd.env true (xq1 test) true 400 ⟨39, hd Tryd.f39 1, zipT [1, 4, 5, 6, 7] [PV.ptr (PA.mk (1) (0) (0) (0)), PV.str x0,
 PV.int .i64 x1, PV.int .i64 x2, PV.int .i64 x3], [[(1, (true, Blk.cells [PV.bool n1, PV.loose (PA.mk (0) (1) ap (0)) np]))], [(0, (false, .cols mp [.int .i64 tp]))]], 2⟩ (proj 1 [1, 4, 5, 6, 7] Kst Kret) =
  T39_1 test Kst Kret n1 ap np mp tp x0 x1 x2 x3 := by kernel_rfl
noncomputable def T39_2 (test : TT) (Kst : KS) (Kret : KR) (n1 : Bool) (ap np mp : Nat) (tp : NI) (x0 : ByteArray) : Prop := test (decide ((↑(ByteArray.size x0) : Int) > 1)) (test (decide ((0 : Int) ≤ 0 ∧ (0 : Int) < (↑(ByteArray.size x0) : Int))) (test (keys x0 (0) == 48) (test (decide ((0 : Int) ≤ Option.getD (Option.some (1 : Int)) (0 : Int) ∧ (1 : Int) ≤ (↑(ByteArray.size x0) : Int) ∧ (↑(ByteArray.size x0) : Int) ≤ (↑(ByteArray.size x0) : Int))) (Kst (hd Tryd.f39 2) ([PV.ptr (PA.mk (1) (0) (0) (0)), PV.str (S.subS x0 (1) (ByteArray.size x0)), PV.unk, PV.unk, PV.unk]) ([[(0, false, Blk.cols mp [Col.int .i64 tp]), (1, true, Blk.cells [PV.bool n1, PV.loose (PA.mk (0) (1) ap (0)) np])]]) (2)) (False)) (test (S.eqS x0 (ByteArray.mk #[])) (Kret (PV.tup [PV.str (ByteArray.mk #[(48 : UInt8)]), PV.int .i64 (0 : Int)]) ([[(0, false, Blk.cols mp [Col.int .i64 tp])]]) (2)) (test (n1) (test (decide ((↑(1 + ByteArray.size x0) : Int) ≤ 9223372036854775807)) (Kret (PV.tup [PV.str (ByteArray.mk #[(45 : UInt8)] ++ x0), PV.int .i64 (0 : Int)]) ([[(0, false, Blk.cols mp [Col.int .i64 tp])]]) (2)) (False)) (Kret (PV.tup [PV.str x0, PV.int .i64 (0 : Int)]) ([[(0, false, Blk.cols mp [Col.int .i64 tp])]]) (2))))) (False)) (test (S.eqS x0 (ByteArray.mk #[])) (Kret (PV.tup [PV.str (ByteArray.mk #[(48 : UInt8)]), PV.int .i64 (0 : Int)]) ([[(0, false, Blk.cols mp [Col.int .i64 tp])]]) (2)) (test (n1) (test (decide ((↑(1 + ByteArray.size x0) : Int) ≤ 9223372036854775807)) (Kret (PV.tup [PV.str (ByteArray.mk #[(45 : UInt8)] ++ x0), PV.int .i64 (0 : Int)]) ([[(0, false, Blk.cols mp [Col.int .i64 tp])]]) (2)) (False)) (Kret (PV.tup [PV.str x0, PV.int .i64 (0 : Int)]) ([[(0, false, Blk.cols mp [Col.int .i64 tp])]]) (2))))
theorem t39_2 (test : TT) (Kst : KS) (Kret : KR) (n1 : Bool) (ap np mp : Nat) (tp : NI) (x0 : ByteArray) : run test Tryd.env true (xq1 test) true 400 ⟨39, hd Tryd.f39 2, zipT [1, 4, 5, 6, 7] [PV.ptr (PA.mk (1) (0) (0) (0)), PV.str x0, PV.unk,
 PV.unk, PV.unk], [[(1, (true, Blk.cells [PV.bool n1, PV.loose (PA.mk (0) (1) ap (0)) np]))], [(0, (false, .cols mp [.int .i64 tp]))]], 2⟩ (proj 1 [1, 4, 5, 6, 7] Kst Kret) =
  T39_2 test Kst Kret n1 ap np mp tp x0 := by kernel_rfl
noncomputable abbrev J39 (n1 : Bool) (ap np mp : Nat) (tp : NI) : Rt39 → Heap := fun r => [newL (1 + 1) ((N39 n1 ap np mp tp) r) ++ [(0, (false, .cols mp [.int .i64 tp]))]]
attribute [local irreducible] Int.subNatNat in
theorem be39 (n1 : Bool) (ap np mp : Nat) (tp : NI) (Kst : KS) (Kret : KR) (x : St39 ⊕ Rt39) (hS : HS 1 400 ((I39 n1 ap np mp tp)) Kst x) (hR : HR 1 400 ((V39 n1 ap np mp tp)) (J39 n1 ap np mp tp) Kret x) (h : p39 n1 ap np mp tp = some x) : Te39 cond Kst Kret n1 ap np mp tp := by
  unfold Te39
  unfold p39 at h
  refine bif_split h (fun c0 h => bif_split h (fun c1 h => stop_at hS _ h (fun n => bif Nat.beq n 1 then 1 else n) rfl rfl rfl ⟨(rn_ptr (use_own rfl) rfl rfl), ⟨(rn_str rfl), ⟨(rn_int rfl), ⟨(rn_unk _), ⟨(rn_unk _), trivial⟩⟩⟩⟩⟩ rfl (entl_b (use_own rfl) rfl (by simp) (rb_cells ⟨(rn_bool rfl), (rn_loose (use_lo rfl) rfl rfl rfl), trivial⟩) (entl_bor (use_lo rfl) rfl rfl entl_nil))) (fun c1 h => ret_at hR _ h (fun n => n) rfl rfl rfl (rn_tup ⟨(rn_str rfl), (rn_int rfl), trivial⟩) rfl (entl_bor (use_lo rfl) rfl rfl entl_nil))) (fun c0 h => no_some h)
attribute [local irreducible] Int.subNatNat in
theorem b39_0 (n1 : Bool) (ap np mp : Nat) (tp : NI) (Kst : KS) (Kret : KR) (x : St39 ⊕ Rt39) (hS : HS 1 400 ((I39 n1 ap np mp tp)) Kst x) (hR : HR 1 400 ((V39 n1 ap np mp tp)) (J39 n1 ap np mp tp) Kret x) (x0 : ByteArray) (x1 : Int) (h : q39 n1 ap np mp tp (.h0 x0 x1) = some x) : T39_0 cond Kst Kret n1 ap np mp tp x0 x1 := by
  unfold T39_0
  rw [q39] at h
  exact bif_split h (fun c0 h => bif_split h (fun c1 h => bif_split h (fun c2 h => stop_at hS _ h (fun n => bif Nat.beq n 1 then 1 else n) rfl rfl rfl ⟨(rn_ptr (use_own rfl) rfl rfl), ⟨(rn_str rfl), ⟨(rn_int rfl), ⟨(rn_int rfl), ⟨(rn_int rfl), trivial⟩⟩⟩⟩⟩ rfl (entl_b (use_own rfl) rfl (by simp) (rb_cells ⟨(rn_bool rfl), (rn_loose (use_lo rfl) rfl rfl rfl), trivial⟩) (entl_bor (use_lo rfl) rfl rfl entl_nil))) (fun c2 h => no_some h)) (fun c1 h => no_some h)) (fun c0 h => stop_at hS _ h (fun n => bif Nat.beq n 1 then 1 else n) rfl rfl rfl ⟨(rn_ptr (use_own rfl) rfl rfl), ⟨(rn_str rfl), ⟨(rn_unk _), ⟨(rn_unk _), ⟨(rn_unk _), trivial⟩⟩⟩⟩⟩ rfl (entl_b (use_own rfl) rfl (by simp) (rb_cells ⟨(rn_bool rfl), (rn_loose (use_lo rfl) rfl rfl rfl), trivial⟩) (entl_bor (use_lo rfl) rfl rfl entl_nil)))
attribute [local irreducible] Int.subNatNat in
theorem b39_1 (n1 : Bool) (ap np mp : Nat) (tp : NI) (Kst : KS) (Kret : KR) (x : St39 ⊕ Rt39) (hS : HS 1 400 ((I39 n1 ap np mp tp)) Kst x) (hR : HR 1 400 ((V39 n1 ap np mp tp)) (J39 n1 ap np mp tp) Kret x) (x0 : ByteArray) (x1 x2 x3 : Int) (h : q39 n1 ap np mp tp (.h1 x0 x1 x2 x3) = some x) : T39_1 cond Kst Kret n1 ap np mp tp x0 x1 x2 x3 := by
  unfold T39_1
  rw [q39] at h
  exact bif_split h (fun c0 h => cond_no rfl (bif_split h (fun c1 h => cond_yes rfl (bif_split h (fun c2 h => cond_no rfl (bif_split h (fun c3 h => bif_split h (fun c4 h => stop_at hS _ h (fun n => bif Nat.beq n 1 then 1 else n) rfl rfl rfl ⟨(rn_ptr (use_own rfl) rfl rfl), ⟨(rn_str rfl), ⟨(rn_int rfl), ⟨(rn_int rfl), ⟨(rn_int rfl), trivial⟩⟩⟩⟩⟩ rfl (entl_b (use_own rfl) rfl (by simp) (rb_cells ⟨(rn_bool rfl), (rn_loose (use_lo rfl) rfl rfl rfl), trivial⟩) (entl_bor (use_lo rfl) rfl rfl entl_nil))) (fun c4 h => no_some h)) (fun c3 h => no_some h))) (fun c2 h => no_some h))) (fun c1 h => no_some h))) (fun c0 h => bif_split h (fun c1 h => stop_at hS _ h (fun n => bif Nat.beq n 1 then 1 else n) rfl rfl rfl ⟨(rn_ptr (use_own rfl) rfl rfl), ⟨(rn_str rfl), ⟨(rn_int rfl), ⟨(rn_unk _), ⟨(rn_unk _), trivial⟩⟩⟩⟩⟩ rfl (entl_b (use_own rfl) rfl (by simp) (rb_cells ⟨(rn_bool rfl), (rn_loose (use_lo rfl) rfl rfl rfl), trivial⟩) (entl_bor (use_lo rfl) rfl rfl entl_nil))) (fun c1 h => no_some h))
attribute [local irreducible] Int.subNatNat in
theorem b39_2 (n1 : Bool) (ap np mp : Nat) (tp : NI) (Kst : KS) (Kret : KR) (x : St39 ⊕ Rt39) (hS : HS 1 400 ((I39 n1 ap np mp tp)) Kst x) (hR : HR 1 400 ((V39 n1 ap np mp tp)) (J39 n1 ap np mp tp) Kret x) (x0 : ByteArray) (h : q39 n1 ap np mp tp (.h2 x0) = some x) : T39_2 cond Kst Kret n1 ap np mp tp x0 := by
  unfold T39_2
  rw [q39] at h
  refine bif_split h (fun c0 h => bif_split h (fun c1 h => bif_split h (fun c2 h => bif_split h (fun c3 h => stop_at hS _ h (fun n => bif Nat.beq n 1 then 1 else n) rfl rfl rfl ⟨(rn_ptr (use_own rfl) rfl rfl), ⟨(rn_str rfl), ⟨(rn_unk _), ⟨(rn_unk _), ⟨(rn_unk _), trivial⟩⟩⟩⟩⟩ rfl (entl_b (use_own rfl) rfl (by simp) (rb_cells ⟨(rn_bool rfl), (rn_loose (use_lo rfl) rfl rfl rfl), trivial⟩) (entl_bor (use_lo rfl) rfl rfl entl_nil))) (fun c3 h => ?_)) (fun c2 h => bif_split h (fun c3 h => ?_) (fun c3 h => bif_split h (fun c4 h => bif_split h (fun c5 h => ?_) (fun c5 h => ?_)) (fun c4 h => ?_)))) (fun c1 h => ?_)) (fun c0 h => bif_split h (fun c1 h => ?_) (fun c1 h => bif_split h (fun c2 h => bif_split h (fun c3 h => ?_) (fun c3 h => ?_)) (fun c2 h => ?_)))
  all_goals first
    | exact ret_at hR _ h (fun n => n) rfl rfl rfl (rn_tup ⟨(rn_str rfl), (rn_int rfl), trivial⟩) rfl (entl_bor (use_lo rfl) rfl rfl entl_nil)
    | exact no_some h
theorem a39 (n1 : Bool) (ap np mp : Nat) (tp : NI) {r : Rt39} (h : Goes ((q39 n1 ap np mp tp)) ((p39 n1 ap np mp tp)) r) : CallR Tryd.prog 39 [.agg [.bool n1, .loose ⟨0, 1, ap, 0⟩ np]] [[(0, (false, .cols mp [.int .i64 tp]))]] 1 ((V39 n1 ap np mp tp) r) ((J39 n1 ap np mp tp) r) 400 ∧ ∃ F, Tryd.prog.funcs[39]? = some F ∧ F.body.isSome = true ∧ (F.name == "runtime.NumGoroutine") = false := by
  refine dec_calls (f := 39) (lo := 1) (hi := 400) Tryd.envOk Tryd.mixed xq1_ok ((I39 n1 ap np mp tp)) ((V39 n1 ap np mp tp)) (J39 n1 ap np mp tp) (fn := mkFn Tryd.f39) (ts := [1, 4, 5, 6, 7]) (n := 400) rfl (by decide) (by simp) (names_of rfl) ?_ ?_ ?_ h
  · intro s; cases s <;> exact ⟨hd_ok _ _, by simp [I39], names_of rfl, Nat.le_of_ble_eq_true rfl⟩
  · intro Kst Kret x hS hR h
    exact Holds.eq (te39 cond Kst Kret n1 ap np mp tp) (be39 n1 ap np mp tp Kst Kret x hS hR h)
  · intro Kst Kret x hS hR s h
    cases s with
    | h0 x0 x1 => exact Holds.eq (t39_0 cond Kst Kret n1 ap np mp tp x0 x1) (b39_0 n1 ap np mp tp Kst Kret x hS hR x0 x1 h)
    | h1 x0 x1 x2 x3 => exact Holds.eq (t39_1 cond Kst Kret n1 ap np mp tp x0 x1 x2 x3) (b39_1 n1 ap np mp tp Kst Kret x hS hR x0 x1 x2 x3 h)
    | h2 x0 => exact Holds.eq (t39_2 cond Kst Kret n1 ap np mp tp x0) (b39_2 n1 ap np mp tp Kst Kret x hS hR x0 h)
noncomputable abbrev w39 {α : Type} (g : Bool → Nat → Nat → Nat → (Nat → Int) → α) (x : (Bool × (Nat × Nat × Nat × (Nat → Int) × Unit) × Unit) × Unit) : α := g x.1.1 x.1.2.1.1 x.1.2.1.2.1 x.1.2.1.2.2.1 x.1.2.1.2.2.2.1
noncomputable def k39  : Con := ⟨39, [.agg [.plain (.bool), .list [.int .i64]]], w39 (fun n1 ap np mp tp => decide (ap + np ≤ mp ∧ np ≤ 1000000)), w39 (fun n1 ap np mp tp => (V39 n1 ap np mp tp) ((S.fmtS n1 np (fun j => tp (j + ap))).1, (S.fmtS n1 np (fun j => tp (j + ap))).2)), w39 (fun n1 ap np mp tp => (N39 n1 ap np mp tp) ((S.fmtS n1 np (fun j => tp (j + ap))).1, (S.fmtS n1 np (fun j => tp (j + ap))).2)), fun _ _ => .dead⟩
theorem strip_eq  {w : ByteArray} (h1 : w.size > 1) (h0 : keys w 0 = 48) (hd : ∀ j, j < w.size → 48 ≤ keys w j ∧ keys w j ≤ 57) : S.decW (S.subS w 1 w.size) (S.subS w 1 w.size).size = S.decW w w.size ∧ ∀ j, j < (S.subS w 1 w.size).size → 48 ≤ keys (S.subS w 1 w.size) j ∧ keys (S.subS w 1 w.size) j ≤ 57 := by
  have hs : (S.subS w 1 w.size).size = w.size - 1 := sub_size (Nat.le_refl _)
  constructor
  · rw [hs]
    have e := dec_lead (f := fun j => keys w j - 48) (n := w.size - 1) (fun j hj => by have := hd j (by omega); (try dsimp only); omega)
    rw [show w.size - 1 + 1 = w.size by omega] at e
    have e : S.decW w w.size = (keys w 0 - 48) * pT (w.size - 1) + S.decN (fun j => keys w (1 + j) - 48) (w.size - 1) := e
    rw [e, h0]
    show S.decN _ _ = (48 - 48) * _ + _
    rw [show (48 : Int) - 48 = 0 from rfl, Int.zero_mul, Int.zero_add]
    exact decN_congr fun j hj => by rw [keys_sub (Nat.le_refl _) (by omega)]
  · intro j hj
    rw [keys_sub (Nat.le_refl _) (by omega)]
    exact hd (1 + j) (by omega)
theorem cons_dec  {c : Int} {w : ByteArray} (hc : 0 ≤ c ∧ c ≤ 9) : S.decW (S.ofB (fun _ => 48 + c) 1 ++ w) (S.ofB (fun _ => 48 + c) 1 ++ w).size = c * pT w.size + S.decW w w.size ∧ (S.ofB (fun _ => 48 + c) 1 ++ w).size = w.size + 1 ∧ ((∀ j, j < w.size → 48 ≤ keys w j ∧ keys w j ≤ 57) → ∀ j, j < (S.ofB (fun _ => 48 + c) 1 ++ w).size → 48 ≤ keys (S.ofB (fun _ => 48 + c) 1 ++ w) j ∧ keys (S.ofB (fun _ => 48 + c) 1 ++ w) j ≤ 57) := by
  have s1 : (S.ofB (fun _ => 48 + c) 1).size = 1 := ofB_size
  have hs : (S.ofB (fun _ => 48 + c) 1 ++ w).size = w.size + 1 := by rw [app_size, s1]; omega
  have k0 : keys (S.ofB (fun _ => 48 + c) 1 ++ w) 0 = 48 + c := by
    rw [keys_app, if_pos (by rw [s1]; omega)]
    exact keys_ofB (f := fun _ => 48 + c) (by omega) (by (try dsimp only); omega)
  have kj : ∀ j, keys (S.ofB (fun _ => 48 + c) 1 ++ w) (1 + j) = keys w j := fun j => by
    rw [keys_app, if_neg (by rw [s1]; omega), s1, show 1 + j - 1 = j by omega]
  refine ⟨?_, hs, fun hd j hj => ?_⟩
  · rw [hs]
    have := decN_add (f := fun j => keys (S.ofB (fun _ => 48 + c) 1 ++ w) j - 48) (a := 1) (c := w.size)
    rw [Nat.add_comm 1] at this
    unfold S.decW
    rw [this]
    show (0 * 10 + (keys _ 0 - 48)) * _ + _ = _
    rw [k0, Int.zero_mul, Int.zero_add, show 48 + c - 48 = c by omega]
    congr 1
    exact decN_congr fun j hj => by rw [kj]
  · cases j with
    | zero => rw [k0]; omega
    | succ j => rw [Nat.add_comm j 1, kj]; exact hd j (by omega)
theorem p10_pw  : ∀ {i : Nat}, pT (6 * i) = S.pw i
  | 0 => rfl
  | i + 1 => by
    rw [show 6 * (i + 1) = 6 * i + 6 by omega]
    show 10 * (10 * (10 * (10 * (10 * (10 * pT (6 * i)))))) = 1000000 * S.pw i
    rw [p10_pw]; omega
theorem p10_add  {a : Nat} : ∀ {c : Nat}, pT (a + c) = pT a * pT c
  | 0 => by show pT a = pT a * 1; omega
  | c + 1 => by
    show 10 * pT (a + c) = pT a * (10 * pT c)
    rw [p10_add, Int.mul_left_comm]
theorem s39s (n1 : Bool) (ap np mp : Nat) (tp : Nat → Int) (hk : S.okI n1 np (fun j => tp (j + ap)) = true) : ∀ (m : Nat) (w : ByteArray), w.size = m → m ≤ 100000 → (∀ j, j < w.size → 48 ≤ keys w j ∧ keys w j ≤ 57) → S.decW w w.size = (S.val np (fun j => tp (j + ap))) → (w.size = 0 → np = 0) → Comes (q39 n1 ap np mp tp) (.h2 w) (S.fmtW n1 (S.val np (fun j => tp (j + ap))), 0) := by
  obtain ⟨l1, g1, z1⟩ := okI_iff.mp hk
  intro m
  induction m with
  | zero =>
    intro w hw hm hd hv hn
    obtain rfl : np = 0 := hn hw
    have hv0 : (S.val 0 (fun j => tp (j + ap))) = 0 := rfl
    have hng : n1 = false := by
      rcases z1 with h | h
      · omega
      · exact h
    subst hng
    unfold S.fmtW
    rw [if_neg Bool.false_ne_true, hv0, num_is nat_zero.1 nat_zero.2]
    apply Comes.of
    show Goes _ _ _
    rw [q39]
    skip
    simp only [eqS_nil]
    repeat' (first | with_reducible refine goes_if (fun h => ?_) (fun h => ?_) <;> (try simp only [SH] at h) | exact goes_none.mpr (by omega))
    all_goals first | (exfalso; omega) | exact goes_inr.mpr rfl
  | succ m ih =>
    intro w hw hm hd hv hn
    by_cases h0 : w.size > 1 ∧ keys w 0 = 48
    · obtain ⟨s1, s2⟩ := strip_eq h0.1 h0.2 hd
      have hs : (S.subS w 1 w.size).size = w.size - 1 := sub_size (Nat.le_refl _)
      have ih := ih (S.subS w 1 w.size) (by omega) (by omega) s2 (by rw [s1, hv]) (by omega)
      generalize (S.fmtW n1 (S.val np (fun j => tp (j + ap))), 0) = R at *
      obtain ⟨h1, h2⟩ := h0
      have e48 : (keys w 0 == 48) = true := by rw [h2]; rfl
      apply Comes.of
      show Goes _ _ _
      rw [q39]
      skip
      simp only [eqS_nil, e48]
      repeat' (first | with_reducible refine goes_if (fun h => ?_) (fun h => ?_) <;> (try simp only [SH] at h) | exact goes_none.mpr (by omega))
      all_goals first | (exfalso; omega) | exact ih
    · have hN : S.natB w = true := natB_iff.mpr ⟨⟨by omega, h0⟩, alD_iff.mpr hd⟩
      have hf : S.numW (S.val np (fun j => tp (j + ap))) = w := num_is hN hv
      unfold S.fmtW
      rw [hf]
      apply Comes.of
      show Goes _ _ _
      rw [q39]
      skip
      simp only [eqS_nil]
      cases n1
      · rw [if_neg Bool.false_ne_true]
        repeat' (first | with_reducible refine goes_if (fun h => ?_) (fun h => ?_) <;> (try simp only [SH] at h) | exact goes_none.mpr (by omega))
        all_goals first | (exfalso; omega) | exact goes_inr.mpr rfl
      · rw [if_pos rfl]
        repeat' (first | with_reducible refine goes_if (fun h => ?_) (fun h => ?_) <;> (try simp only [SH] at h) | exact goes_none.mpr (by omega))
        all_goals first | (exfalso; omega) | exact goes_inr.mpr rfl
theorem s39i (n1 : Bool) (ap np mp : Nat) (tp : Nat → Int) (hp : ap + np ≤ mp ∧ np ≤ 1000000) (hk : S.okI n1 np (fun j => tp (j + ap)) = true) (i : Nat) (hi : i < np) (hC : ∀ w : ByteArray, w.size = 6 * (i + 1) → (∀ j, j < w.size → 48 ≤ keys w j ∧ keys w j ≤ 57) → S.decW w w.size = S.valF (fun j => tp (j + ap)) 0 (i + 1) → Comes (q39 n1 ap np mp tp) (.h0 w ((i : Int) + 1)) (S.fmtW n1 (S.val np (fun j => tp (j + ap))), 0)) : ∀ (m k : Nat) (w : ByteArray), k + m = 6 → w.size = 6 * i + k → (∀ j, j < w.size → 48 ≤ keys w j ∧ keys w j ≤ 57) → S.decW w w.size = S.valF (fun j => tp (j + ap)) 0 i + S.pw i * (tp (i + ap) % pT k) → Comes (q39 n1 ap np mp tp) (.h1 w (i : Int) (tp (i + ap) / pT k) (k : Int)) (S.fmtW n1 (S.val np (fun j => tp (j + ap))), 0) := by
  obtain ⟨l1, g1, z1⟩ := okI_iff.mp hk
  have hx := (okG_iff.mp g1).1 i hi
  (try dsimp only at hx)
  intro m
  induction m with
  | zero =>
    intro k w hkm hw hd hv
    obtain rfl : k = 6 := by omega
    have p6 : pT 6 = 1000000 := by decide
    rw [p6] at hv ⊢
    have := hC w (by omega) hd (by
      rw [valF_snoc, Nat.zero_add, hv, show tp (i + ap) % 1000000 = tp (i + ap) by omega])
    generalize (S.fmtW n1 (S.val np (fun j => tp (j + ap))), 0) = R at *
    apply Comes.of
    show Goes _ _ _
    rw [q39]
    skip
    repeat' (first | with_reducible refine goes_if (fun h => ?_) (fun h => ?_) <;> (try simp only [SH] at h) | exact goes_none.mpr (by omega))
    all_goals first | (exfalso; omega) | exact this
  | succ m ih =>
    intro k w hkm hw hd hv
    have pp := p10_pos (n := k)
    have g0 : 0 ≤ tp (i + ap) / pT k := Int.ediv_nonneg hx.1 (by omega)
    have gl : tp (i + ap) / pT k ≤ tp (i + ap) := Int.ediv_le_self _ hx.1
    have gd := Int.emod_add_mul_ediv (tp (i + ap)) (pT k)
    have e1 : tp (i + ap) / pT (k + 1) = tp (i + ap) / pT k / 10 := by
      show tp (i + ap) / (10 * pT k) = _
      rw [Int.mul_comm, Int.ediv_ediv_of_nonneg (by omega)]
    have e2 : tp (i + ap) % pT (k + 1) = tp (i + ap) % pT k + pT k * (tp (i + ap) / pT k % 10) := by
      have h1 := Int.emod_add_mul_ediv (tp (i + ap)) (pT (k + 1))
      rw [e1] at h1
      have h2 : pT (k + 1) = 10 * pT k := rfl
      rw [h2] at h1 ⊢
      have h3 : tp (i + ap) / pT k = tp (i + ap) / pT k % 10 + 10 * (tp (i + ap) / pT k / 10) := by omega
      have h4 : pT k * (tp (i + ap) / pT k) = pT k * (tp (i + ap) / pT k % 10) + 10 * pT k * (tp (i + ap) / pT k / 10) := by
        have : pT k * (tp (i + ap) / pT k) = pT k * (tp (i + ap) / pT k % 10 + 10 * (tp (i + ap) / pT k / 10)) := by rw [← h3]
        rw [this, Int.mul_add, ← Int.mul_assoc, Int.mul_comm (pT k) 10]
      omega
    generalize hg : tp (i + ap) / pT k = g at *
    obtain ⟨c1, c2, c3⟩ := cons_dec (c := g % 10) (w := w) (by omega)
    have ih := ih (k + 1) (S.ofB (fun _ => 48 + g % 10) 1 ++ w) (by omega) (by rw [c2]; omega) (c3 hd) (by
      rw [c1, hv, e2, hw, p10_add, p10_pw, Int.mul_add, Int.mul_comm (g % 10), Int.mul_assoc]
      omega)
    rw [e1] at ih
    have w8 : IntKind.u8.wrap (48 + g % 10) = 48 + g % 10 := by
      show (48 + g % 10) % 256 = _
      omega
    have t1 : Int.tmod g 10 = g % 10 := Int.tmod_eq_emod_of_nonneg g0
    have t2 : Int.tdiv g 10 = g / 10 := Int.tdiv_eq_ediv_of_nonneg g0
    have so : (S.ofB (fun _ => 48 + g % 10) 1).size = 1 := ofB_size
    generalize (S.fmtW n1 (S.val np (fun j => tp (j + ap))), 0) = R at *
    clear hv c1 c3 e2 gd
    apply Comes.of
    show Goes _ _ _
    rw [q39]
    skip
    simp only [t1, t2, w8, so]
    repeat' (first | with_reducible refine goes_if (fun h => ?_) (fun h => ?_) <;> (try simp only [SH] at h) | exact goes_none.mpr (by omega))
    all_goals first | (exfalso; omega) | exact ih
theorem s39o (n1 : Bool) (ap np mp : Nat) (tp : Nat → Int) (hp : ap + np ≤ mp ∧ np ≤ 1000000) (hk : S.okI n1 np (fun j => tp (j + ap)) = true) : ∀ (m i : Nat) (w : ByteArray), i + m = np → w.size = 6 * i → (∀ j, j < w.size → 48 ≤ keys w j ∧ keys w j ≤ 57) → S.decW w w.size = S.valF (fun j => tp (j + ap)) 0 i → Comes (q39 n1 ap np mp tp) (.h0 w (i : Int)) (S.fmtW n1 (S.val np (fun j => tp (j + ap))), 0) := by
  have l1 := (okI_iff.mp hk).1
  intro m
  induction m with
  | zero =>
    intro i w hi hw hd hv
    obtain rfl : i = np := by omega
    have hm := s39s n1 ap i mp tp hk w.size w rfl (by omega) hd hv (by omega)
    generalize (S.fmtW n1 (S.val i (fun j => tp (j + ap))), 0) = R at *
    apply Comes.of
    show Goes _ _ _
    rw [q39]
    skip
    repeat' (first | with_reducible refine goes_if (fun h => ?_) (fun h => ?_) <;> (try simp only [SH] at h) | exact goes_none.mpr (by omega))
    all_goals first | (exfalso; omega) | exact hm
  | succ m ih =>
    intro i w hi hw hd hv
    have hm := s39i n1 ap np mp tp hp hk i (by omega) (fun w h1 h2 h3 => by
      have := ih (i + 1) w (by omega) h1 h2 h3
      rw [show ((i + 1 : Nat) : Int) = (i : Int) + 1 by omega] at this
      exact this) 6 0 w (by omega) hw hd (by
        rw [hv]
        show _ = _ + _ * (_ % 1)
        rw [Int.emod_one, Int.mul_zero, Int.add_zero])
    have ed : tp (i + ap) / pT 0 = tp (i + ap) := Int.ediv_one _
    rw [ed] at hm
    generalize (S.fmtW n1 (S.val np (fun j => tp (j + ap))), 0) = R at *
    obtain ⟨hp1, hp2⟩ := hp
    apply Comes.of
    show Goes _ _ _
    rw [q39]
    skip
    simp only [Int.toNat_natCast]
    repeat' (first | with_reducible refine goes_if (fun h => ?_) (fun h => ?_) <;> (try simp only [SH] at h) | exact goes_none.mpr (by omega))
    all_goals first | (exfalso; omega) | exact hm
theorem s39 (n1 : Bool) (ap np mp : Nat) (tp : Nat → Int) (hp : ap + np ≤ mp ∧ np ≤ 1000000) : Goes ((q39 n1 ap np mp tp)) ((p39 n1 ap np mp tp)) (((S.fmtS n1 np (fun j => tp (j + ap))).1, (S.fmtS n1 np (fun j => tp (j + ap))).2)) := by
  show Goes _ _ (S.fmtS n1 np (fun j => tp (j + ap)))
  have d1 : ap + np ≤ mp ∧ np ≤ 1000000 := hp
  unfold S.fmtS
  by_cases g1 : S.okI n1 np (fun j => tp (j + ap)) = true
  · rw [if_pos g1]
    have hm := s39o n1 ap np mp tp hp g1 np 0 (ByteArray.mk #[]) (by omega) rfl (fun j hj => absurd hj (Nat.not_lt_zero j)) rfl
    unfold p39
    refine goes_ok (decide_eq_true d1) (goes_ok g1 ?_)
    exact hm
  · rw [if_neg g1]
    have g1 := Bool.eq_false_iff.mpr g1
    unfold p39
    exact goes_ok (decide_eq_true d1) (goes_no g1 (goes_inr.mpr rfl))
theorem k39_ok  : k39.ok Tryd.prog := by
  intro x hx
  obtain ⟨⟨n1, ⟨ap, np, mp, tp, _⟩, _⟩, _⟩ := x
  obtain ⟨h1, h2⟩ := a39 n1 ap np mp tp (s39 n1 ap np mp tp (of_dec hx rfl))
  exact ⟨⟨400, (by decide : 1 + 1 + 0 ≤ 400), h1⟩, h2⟩
noncomputable def k79  : Con := ⟨79, [.one (.plain (.str))], fun _ => false, fun _ => .tup [.agg [.int .u32 0, .int .u32 0, .int .u32 0, .int .u32 0, .int .u32 0, .int .u32 0, .int .u32 0, .int .u32 0], .tf false], fun _ => [], fun _ _ => .dead⟩
theorem k79_ok  : k79.ok Tryd.prog := fun _ hx => absurd (show false = true from hx) Bool.false_ne_true
noncomputable def k81  : Con := ⟨81, [.one (.plain (.str)), .one (.plain (.str))], fun _ => false, fun _ => .str (ByteArray.mk #[]), fun _ => [], fun _ _ => .dead⟩
theorem k81_ok  : k81.ok Tryd.prog := fun _ hx => absurd (show false = true from hx) Bool.false_ne_true
noncomputable def xq2 (test : Bool → Prop → Prop → Prop) : Ext := consX test [k18, k19, k78, k79, k81]
theorem xq2_ok  : ExtOk Tryd.prog (xq2 cond) := consX_ok ⟨k18_ok, k19_ok, k78_ok, k79_ok, k81_ok, trivial⟩
theorem tri_ok  : ∀ {n : Nat} {w : ByteArray}, w.size = n → (∀ j, j < w.size → 48 ≤ keys w j ∧ keys w j ≤ 57) → 0 < S.decW w w.size → S.natB (S.triN 48 n w) = true ∧ S.decW (S.triN 48 n w) (S.triN 48 n w).size = S.decW w w.size ∧ (S.triN 48 n w).size ≤ n
  | 0, w, hw, _, hv => by
    rw [hw] at hv
    exact absurd hv (by show ¬ (0 : Int) < 0; omega)
  | n + 1, w, hw, hd, hv => by
    simp only [S.triN]
    by_cases h0 : w.size > 0 ∧ keys w 0 = 48
    · rw [if_pos h0]
      have h1 : w.size > 1 := by
        refine Nat.not_le.mp fun h => ?_
        have e1 : w.size = 1 := by omega
        rw [e1] at hv
        have : S.decW w 1 = 0 * 10 + (keys w 0 - 48) := rfl
        omega
      obtain ⟨s1, s2⟩ := strip_eq h1 h0.2 hd
      have hs : (S.subS w 1 w.size).size = w.size - 1 := sub_size (Nat.le_refl _)
      have := tri_ok (n := n) (w := S.subS w 1 w.size) (by omega) s2 (by rw [s1]; exact hv)
      exact ⟨this.1, this.2.1.trans s1, by omega⟩
    · rw [if_neg h0]
      exact ⟨natB_iff.mpr ⟨⟨by omega, fun h => h0 ⟨by omega, h.2⟩⟩, alD_iff.mpr hd⟩, rfl, by omega⟩
theorem decL_snoc  {L : List Int} {x : Int} : S.decN (fun j => S.at' (S.snoc L x) j - 48) (S.snoc L x).length = S.decN (fun j => S.at' L j - 48) L.length * 10 + (x - 48) := by
  rw [snoc_len]
  simp only [S.decN]
  rw [at_snoc_eq, decN_congr (g := fun j => S.at' L j - 48) fun j hj => by rw [at_snoc_lt hj]]
theorem digL_snoc  {L : List Int} {x : Int} (h : ∀ j, j < L.length → 48 ≤ S.at' L j ∧ S.at' L j ≤ 57) (hx : 48 ≤ x ∧ x ≤ 57) : ∀ j, j < (S.snoc L x).length → 48 ≤ S.at' (S.snoc L x) j ∧ S.at' (S.snoc L x) j ≤ 57 := by
  intro j hj
  rw [snoc_len] at hj
  by_cases hl : j < L.length
  · rw [at_snoc_lt hl]; exact h j hl
  · obtain rfl : j = L.length := by omega
    rw [at_snoc_eq]; exact hx
inductive St38 where
  | h0 (x0 : Int) (x1 : List Int)
  | h1 (x0 : Int) (x1 : Int) (x2 : List Int)
abbrev Rt38  := ByteArray × Int
noncomputable def V38 (n1 : Bool) (ap np mp : Nat) (tp : NI) (r : Rt38) : PV := PV.tup [PV.str r.1, PV.int .i64 r.2]
noncomputable def N38 (n1 : Bool) (ap np mp : Nat) (tp : NI) (r : Rt38) : List Blk := []
noncomputable def I38 (n1 : Bool) (ap np mp : Nat) (tp : NI) : St38 → Hd
  | .h0 x0 x1 => ⟨hd Tryd.f38 0, [PV.ptr (PA.mk (1) (0) (0) (0)),
 PV.own (2) (1) (List.length x1), PV.int .i64 x0, PV.unk], [[(1, (true, Blk.cells [PV.bool n1, PV.loose (PA.mk (0) (1) ap (0)) np])), (2, (true, Blk.cols (List.length x1) [Col.int .u8 fun j => S.at' x1 j]))], [(0, (false, .cols mp [.int .i64 tp]))]], 3⟩
  | .h1 x0 x1 x2 => ⟨hd Tryd.f38 1, [PV.ptr (PA.mk (1) (0) (0) (0)),
 PV.own (2) (1) (List.length x2), PV.int .i64 x0, PV.int .i64 x1], [[(1, (true, Blk.cells [PV.bool n1, PV.loose (PA.mk (0) (1) ap (0)) np])), (2, (true, Blk.cols (List.length x2) [Col.int .u8 fun j => S.at' x2 j]))], [(0, (false, .cols mp [.int .i64 tp]))]], 3⟩
noncomputable def q38 (n1 : Bool) (ap np mp : Nat) (tp : NI) : St38 → Option (St38 ⊕ Rt38) | .h0 x0 x1 => bif (decide (x0 ≥ 0)) then (some (.inl (.h1 (x0) ((100000 : Int)) (x1)))) else (bif (decide (0 + List.length x1 ≤ List.length x1)) then (bif (S.eqS (S.ofB (fun j => S.at' x1 j) (List.length x1)) (ByteArray.mk #[])) then (bif (n1) then (bif (decide ((↑(1 + ByteArray.size (S.ofB (fun j => S.at' x1 j) (List.length x1))) : Int) ≤ 9223372036854775807)) then (some (.inr (ByteArray.mk #[(45 : UInt8)] ++ S.ofB (fun j => S.at' x1 j) (List.length x1), (0 : Int)))) else (none)) else (some (.inr (S.ofB (fun j => S.at' x1 j) (List.length x1), (0 : Int))))) else (bif (decide (ByteArray.size (S.ofB (fun j => S.at' x1 j) (List.length x1)) ≤ 1000000)) then (bif (n1) then (bif (decide ((↑(1 + ByteArray.size (S.triS (S.ofB (fun j => S.at' x1 j) (List.length x1)) (48 : Int))) : Int) ≤ 9223372036854775807)) then (some (.inr (ByteArray.mk #[(45 : UInt8)] ++ S.triS (S.ofB (fun j => S.at' x1 j) (List.length x1)) (48 : Int), (0 : Int)))) else (none)) else (some (.inr (S.triS (S.ofB (fun j => S.at' x1 j) (List.length x1)) (48 : Int), (0 : Int))))) else (none))) else (none)) | .h1 x0 x1 x2 => bif (decide (x1 > 0)) then (bif (decide ((0 : Int) ≤ x0 ∧ x0 < (↑np : Int))) then (bif (decide (Int.toNat x0 + ap < mp)) then (bif (decide (x1 = 0)) then (none) else (bif (lim .i64 (Int.tdiv (tp (Int.toNat x0 + ap)) x1)) then (bif (lim .i64 ((48 : Int) + Int.tmod (Int.tdiv (tp (Int.toNat x0 + ap)) x1) (10 : Int))) then (bif (decide (List.length x2 + 1 ≤ 1000000)) then (bif (decide (List.length x2 ≤ List.length x2)) then (bif (lim .i64 (Int.tdiv x1 (10 : Int))) then (some (.inl (.h1 (x0) (Int.tdiv x1 (10 : Int)) (S.snoc x2 (IntKind.wrap .u8 ((48 : Int) + Int.tmod (Int.tdiv (tp (Int.toNat x0 + ap)) x1) (10 : Int))))))) else (none)) else (none)) else (none)) else (none)) else (none))) else (none)) else (none)) else (bif (lim .i64 (x0 - 1)) then (some (.inl (.h0 (x0 - 1) (x2)))) else (none))
noncomputable def p38 (n1 : Bool) (ap np mp : Nat) (tp : NI) : Option (St38 ⊕ Rt38) := bif (decide (ap + np ≤ mp ∧ np ≤ 1000000)) then (bif (S.okI n1 np fun j => tp (j + ap)) then (bif ((↑np : Int) == 0) then (some (.inr (ByteArray.mk #[(48 : UInt8)], (0 : Int)))) else (bif (lim .i64 ((↑np : Int) - 1)) then (some (.inl (.h0 ((↑np : Int) - 1) ([])))) else (none))) else (some (.inr (ByteArray.mk #[], (1 : Int))))) else (none)
noncomputable def Te38 (test : TT) (Kst : KS) (Kret : KR) (n1 : Bool) (ap np mp : Nat) (tp : NI) : Prop := test (decide (ap + np ≤ mp ∧ np ≤ 1000000)) (test (S.okI n1 np fun j => tp (j + ap)) (test ((↑np : Int) == 0) (Kret (PV.tup [PV.str (ByteArray.mk #[(48 : UInt8)]), PV.int .i64 (0 : Int)]) ([[(0, false, Blk.cols mp [Col.int .i64 tp])]]) (3)) (test (lim .i64 ((↑np : Int) - 1)) (Kst (hd Tryd.f38 0) ([PV.ptr (PA.mk (1) (0) (0) (0)), PV.nils, PV.int .i64 ((↑np : Int) - 1), PV.unk]) ([[(0, false, Blk.cols mp [Col.int .i64 tp]), (1, true, Blk.cells [PV.bool n1, PV.loose (PA.mk (0) (1) ap (0)) np])]]) (3)) (False))) (Kret (PV.tup [PV.str (ByteArray.mk #[]), PV.int .i64 (1 : Int)]) ([[(0, false, Blk.cols mp [Col.int .i64 tp])]]) (3))) (False)
theorem te38 (test : TT) (Kst : KS) (Kret : KR) (n1 : Bool) (ap np mp : Nat) (tp : NI) : run test Tryd.env true (xq2 test) true 400 ⟨38, [.cd (mkFn Tryd.f38).body], argT 0 [.agg [.bool n1, .loose ⟨0, 1, ap, 0⟩ np]], [[], [(0, (false, .cols mp [.int .i64 tp]))]], 1⟩ (proj 1 [1, 4, 5, 6] Kst Kret) =
  Te38 test Kst Kret n1 ap np mp tp := by kernel_rfl
noncomputable def T38_0 (test : TT) (Kst : KS) (Kret : KR) (n1 : Bool) (ap np mp : Nat) (tp : NI) (x0 : Int) (x1 : List Int) : Prop := test (decide (x0 ≥ 0)) (Kst (hd Tryd.f38 1) ([PV.ptr (PA.mk (1) (0) (0) (0)), PV.own (2) (1) (List.length x1), PV.int .i64 x0, PV.int .i64 (100000 : Int)]) ([[(0, false, Blk.cols mp [Col.int .i64 tp]), (2, true, Blk.cols (List.length x1) [Col.int .u8 fun j => S.at' x1 j]), (1, true, Blk.cells [PV.bool n1, PV.loose (PA.mk (0) (1) ap (0)) np])]]) (3)) (test (decide (0 + List.length x1 ≤ List.length x1)) (test (S.eqS (S.ofB (fun j => S.at' x1 j) (List.length x1)) (ByteArray.mk #[])) (test (n1) (test (decide ((↑(1 + ByteArray.size (S.ofB (fun j => S.at' x1 j) (List.length x1))) : Int) ≤ 9223372036854775807)) (Kret (PV.tup [PV.str (ByteArray.mk #[(45 : UInt8)] ++ S.ofB (fun j => S.at' x1 j) (List.length x1)), PV.int .i64 (0 : Int)]) ([[(0, false, Blk.cols mp [Col.int .i64 tp])]]) (3)) (False)) (Kret (PV.tup [PV.str (S.ofB (fun j => S.at' x1 j) (List.length x1)), PV.int .i64 (0 : Int)]) ([[(0, false, Blk.cols mp [Col.int .i64 tp])]]) (3))) (test (false) (test (n1) (test (decide ((↑(1 + ByteArray.size (S.ofB (fun j => S.at' x1 j) (List.length x1))) : Int) ≤ 9223372036854775807)) (Kret (PV.tup [PV.str (ByteArray.mk #[(45 : UInt8)] ++ S.ofB (fun j => S.at' x1 j) (List.length x1)), PV.int .i64 (0 : Int)]) ([[(0, false, Blk.cols mp [Col.int .i64 tp])]]) (3)) (False)) (Kret (PV.tup [PV.str (S.ofB (fun j => S.at' x1 j) (List.length x1)), PV.int .i64 (0 : Int)]) ([[(0, false, Blk.cols mp [Col.int .i64 tp])]]) (3))) (test (true) (test (true) (test (true) (test (true) (test (decide (ByteArray.size (S.ofB (fun j => S.at' x1 j) (List.length x1)) ≤ 1000000)) (test (n1) (test (decide ((↑(1 + ByteArray.size (S.triS (S.ofB (fun j => S.at' x1 j) (List.length x1)) (48 : Int))) : Int) ≤ 9223372036854775807)) (Kret (PV.tup [PV.str (ByteArray.mk #[(45 : UInt8)] ++ S.triS (S.ofB (fun j => S.at' x1 j) (List.length x1)) (48 : Int)), PV.int .i64 (0 : Int)]) ([[(0, false, Blk.cols mp [Col.int .i64 tp])]]) (4)) (False)) (Kret (PV.tup [PV.str (S.triS (S.ofB (fun j => S.at' x1 j) (List.length x1)) (48 : Int)), PV.int .i64 (0 : Int)]) ([[(0, false, Blk.cols mp [Col.int .i64 tp])]]) (4))) (False)) (False)) (test (false) (False) (False))) (False)) (test (false) (False) (False))))) (False))
theorem t38_0 (test : TT) (Kst : KS) (Kret : KR) (n1 : Bool) (ap np mp : Nat) (tp : NI) (x0 : Int) (x1 : List Int) : run test Tryd.env true (xq2 test) true 400 ⟨38, hd Tryd.f38 0, zipT [1, 4, 5, 6] [PV.ptr (PA.mk (1) (0) (0) (0)),
 PV.own (2) (1) (List.length x1), PV.int .i64 x0, PV.unk], [[(1, (true, Blk.cells [PV.bool n1, PV.loose (PA.mk (0) (1) ap (0)) np])), (2, (true, Blk.cols (List.length x1) [Col.int .u8 fun j => S.at' x1 j]))], [(0, (false, .cols mp [.int .i64 tp]))]], 3⟩ (proj 1 [1, 4, 5, 6] Kst Kret) =
  T38_0 test Kst Kret n1 ap np mp tp x0 x1 := by kernel_rfl
noncomputable def T38_1 (test : TT) (Kst : KS) (Kret : KR) (n1 : Bool) (ap np mp : Nat) (tp : NI) (x0 x1 : Int) (x2 : List Int) : Prop := test (decide (x1 > 0)) (test (decide ((0 : Int) ≤ x0 ∧ x0 < (↑np : Int))) (test (decide (Int.toNat x0 + ap < mp)) (test (decide (x1 = 0)) (False) (test (lim .i64 (Int.tdiv (tp (Int.toNat x0 + ap)) x1)) (test (false) (False) (test (lim .i64 ((48 : Int) + Int.tmod (Int.tdiv (tp (Int.toNat x0 + ap)) x1) (10 : Int))) (test (decide (List.length x2 + 1 ≤ 1000000)) (test (decide (List.length x2 ≤ List.length x2)) (test (true) (test (false) (False) (test (lim .i64 (Int.tdiv x1 (10 : Int))) (Kst (hd Tryd.f38 1) ([PV.ptr (PA.mk (1) (0) (0) (0)), PV.own (4) (1) (List.length x2 + 1), PV.int .i64 x0, PV.int .i64 (Int.tdiv x1 (10 : Int))]) ([[(0, false, Blk.cols mp [Col.int .i64 tp]), (4, true, Blk.cols (List.length x2 + 1) [Col.int .u8 fun j => bif Nat.blt j (List.length x2) then S.at' x2 j else IntKind.wrap .u8 ((48 : Int) + Int.tmod (Int.tdiv (tp (Int.toNat x0 + ap)) x1) (10 : Int))]), (1, true, Blk.cells [PV.bool n1, PV.loose (PA.mk (0) (1) ap (0)) np])]]) (5)) (False))) (False)) (False)) (False)) (False))) (False))) (False)) (False)) (test (lim .i64 (x0 - 1)) (Kst (hd Tryd.f38 0) ([PV.ptr (PA.mk (1) (0) (0) (0)), PV.own (2) (1) (List.length x2), PV.int .i64 (x0 - 1), PV.int .i64 x1]) ([[(0, false, Blk.cols mp [Col.int .i64 tp]), (2, true, Blk.cols (List.length x2) [Col.int .u8 fun j => S.at' x2 j]), (1, true, Blk.cells [PV.bool n1, PV.loose (PA.mk (0) (1) ap (0)) np])]]) (3)) (False))
theorem t38_1 (test : TT) (Kst : KS) (Kret : KR) (n1 : Bool) (ap np mp : Nat) (tp : NI) (x0 x1 : Int) (x2 : List Int) : run test Tryd.env true (xq2 test) true 400 ⟨38, hd Tryd.f38 1, zipT [1, 4, 5, 6] [PV.ptr (PA.mk (1) (0) (0) (0)),
 PV.own (2) (1) (List.length x2), PV.int .i64 x0, PV.int .i64 x1], [[(1, (true, Blk.cells [PV.bool n1, PV.loose (PA.mk (0) (1) ap (0)) np])), (2, (true, Blk.cols (List.length x2) [Col.int .u8 fun j => S.at' x2 j]))], [(0, (false, .cols mp [.int .i64 tp]))]], 3⟩ (proj 1 [1, 4, 5, 6] Kst Kret) =
  T38_1 test Kst Kret n1 ap np mp tp x0 x1 x2 := by kernel_rfl
noncomputable abbrev J38 (n1 : Bool) (ap np mp : Nat) (tp : NI) : Rt38 → Heap := fun r => [newL (1 + 1) ((N38 n1 ap np mp tp) r) ++ [(0, (false, .cols mp [.int .i64 tp]))]]
attribute [local irreducible] Int.subNatNat in
theorem be38 (n1 : Bool) (ap np mp : Nat) (tp : NI) (Kst : KS) (Kret : KR) (x : St38 ⊕ Rt38) (hS : HS 1 400 ((I38 n1 ap np mp tp)) Kst x) (hR : HR 1 400 ((V38 n1 ap np mp tp)) (J38 n1 ap np mp tp) Kret x) (h : p38 n1 ap np mp tp = some x) : Te38 cond Kst Kret n1 ap np mp tp := by
  unfold Te38
  unfold p38 at h
  refine bif_split h (fun c0 h => bif_split h (fun c1 h => bif_split h (fun c2 h => ret_at hR _ h (fun n => n) rfl rfl rfl (rn_tup ⟨(rn_str rfl), (rn_int rfl), trivial⟩) rfl (entl_bor (use_lo rfl) rfl rfl entl_nil)) (fun c2 h => bif_split h (fun c3 h => stop_at hS _ h (fun n => bif Nat.beq n 1 then 1 else bif Nat.beq n 2 then 399 else n) rfl rfl rfl ⟨(rn_ptr (use_own rfl) rfl rfl), ⟨(rn_own_nils rfl), ⟨(rn_int rfl), ⟨(rn_unk _), trivial⟩⟩⟩⟩ rfl (entl_b (use_own rfl) rfl (by simp) (rb_cells ⟨(rn_bool rfl), (rn_loose (use_lo rfl) rfl rfl rfl), trivial⟩) (entl_fresh (use_own rfl) (fresh_ok rfl) (entl_bor (use_lo rfl) rfl rfl entl_nil)))) (fun c3 h => no_some h))) (fun c1 h => ret_at hR _ h (fun n => n) rfl rfl rfl (rn_tup ⟨(rn_str rfl), (rn_int rfl), trivial⟩) rfl (entl_bor (use_lo rfl) rfl rfl entl_nil))) (fun c0 h => no_some h)
attribute [local irreducible] Int.subNatNat in
theorem b38_0 (n1 : Bool) (ap np mp : Nat) (tp : NI) (Kst : KS) (Kret : KR) (x : St38 ⊕ Rt38) (hS : HS 1 400 ((I38 n1 ap np mp tp)) Kst x) (hR : HR 1 400 ((V38 n1 ap np mp tp)) (J38 n1 ap np mp tp) Kret x) (x0 : Int) (x1 : List Int) (h : q38 n1 ap np mp tp (.h0 x0 x1) = some x) : T38_0 cond Kst Kret n1 ap np mp tp x0 x1 := by
  unfold T38_0
  rw [q38] at h
  refine bif_split h (fun c0 h => stop_at hS _ h (fun n => bif Nat.beq n 1 then 1 else bif Nat.beq n 2 then 2 else n) rfl rfl rfl ⟨(rn_ptr (use_own rfl) rfl rfl), ⟨(rn_own (use_own rfl) rfl rfl), ⟨(rn_int rfl), ⟨(rn_int rfl), trivial⟩⟩⟩⟩ rfl (entl_b (use_own rfl) rfl (by simp) (rb_cells ⟨(rn_bool rfl), (rn_loose (use_lo rfl) rfl rfl rfl), trivial⟩) (entl_new (use_own rfl) rfl (Nat.le_of_eq rfl) (rcs_int (fun _ _ => rfl) rcs_nil) (entl_bor (use_lo rfl) rfl rfl entl_nil)))) (fun c0 h => bif_split h (fun c1 h => bif_split h (fun c2 h => bif_split h (fun c3 h => bif_split h (fun c4 h => ?_) (fun c4 h => ?_)) (fun c3 h => ?_)) (fun c2 h => cond_no rfl (cond_yes rfl (cond_yes rfl (cond_yes rfl (cond_yes rfl (bif_split h (fun c3 h => bif_split h (fun c4 h => bif_split h (fun c5 h => ?_) (fun c5 h => ?_)) (fun c4 h => ?_)) (fun c3 h => ?_)))))))) (fun c1 h => ?_))
  all_goals first
    | exact ret_at hR _ h (fun n => n) rfl rfl rfl (rn_tup ⟨(rn_str rfl), (rn_int rfl), trivial⟩) rfl (entl_bor (use_lo rfl) rfl rfl entl_nil)
    | exact no_some h
attribute [local irreducible] Int.subNatNat in
theorem b38_1 (n1 : Bool) (ap np mp : Nat) (tp : NI) (Kst : KS) (Kret : KR) (x : St38 ⊕ Rt38) (hS : HS 1 400 ((I38 n1 ap np mp tp)) Kst x) (hR : HR 1 400 ((V38 n1 ap np mp tp)) (J38 n1 ap np mp tp) Kret x) (x0 x1 : Int) (x2 : List Int) (h : q38 n1 ap np mp tp (.h1 x0 x1 x2) = some x) : T38_1 cond Kst Kret n1 ap np mp tp x0 x1 x2 := by
  unfold T38_1
  rw [q38] at h
  exact bif_split h (fun c0 h => bif_split h (fun c1 h => bif_split h (fun c2 h => bif_split h (fun c3 h => no_some h) (fun c3 h => bif_split h (fun c4 h => cond_no rfl (bif_split h (fun c5 h => bif_split h (fun c6 h => bif_split h (fun c7 h => cond_yes rfl (cond_no rfl (bif_split h (fun c8 h => stop_at hS _ h (fun n => bif Nat.beq n 1 then 1 else bif Nat.beq n 2 then 4 else n) rfl rfl rfl ⟨(rn_ptr (use_own rfl) rfl rfl), ⟨(rn_own (use_own rfl) rfl (snoc_len' rfl)), ⟨(rn_int rfl), ⟨(rn_int rfl), trivial⟩⟩⟩⟩ rfl (entl_b (use_own rfl) rfl (by simp) (rb_cells ⟨(rn_bool rfl), (rn_loose (use_lo rfl) rfl rfl rfl), trivial⟩) (entl_new (use_own rfl) rfl (Nat.le_of_eq (snoc_len' rfl)) (rcs_int (col_snoc' (fun (t : Int) => t) rfl (fun _ _ => rfl)) rcs_nil) (entl_bor (use_lo rfl) rfl rfl entl_nil)))) (fun c8 h => no_some h)))) (fun c7 h => no_some h)) (fun c6 h => no_some h)) (fun c5 h => no_some h))) (fun c4 h => no_some h))) (fun c2 h => no_some h)) (fun c1 h => no_some h)) (fun c0 h => bif_split h (fun c1 h => stop_at hS _ h (fun n => bif Nat.beq n 1 then 1 else bif Nat.beq n 2 then 2 else n) rfl rfl rfl ⟨(rn_ptr (use_own rfl) rfl rfl), ⟨(rn_own (use_own rfl) rfl rfl), ⟨(rn_int rfl), ⟨(rn_unk _), trivial⟩⟩⟩⟩ rfl (entl_b (use_own rfl) rfl (by simp) (rb_cells ⟨(rn_bool rfl), (rn_loose (use_lo rfl) rfl rfl rfl), trivial⟩) (entl_new (use_own rfl) rfl (Nat.le_of_eq rfl) (rcs_int (fun _ _ => rfl) rcs_nil) (entl_bor (use_lo rfl) rfl rfl entl_nil)))) (fun c1 h => no_some h))
theorem a38 (n1 : Bool) (ap np mp : Nat) (tp : NI) {r : Rt38} (h : Goes ((q38 n1 ap np mp tp)) ((p38 n1 ap np mp tp)) r) : CallR Tryd.prog 38 [.agg [.bool n1, .loose ⟨0, 1, ap, 0⟩ np]] [[(0, (false, .cols mp [.int .i64 tp]))]] 1 ((V38 n1 ap np mp tp) r) ((J38 n1 ap np mp tp) r) 400 ∧ ∃ F, Tryd.prog.funcs[38]? = some F ∧ F.body.isSome = true ∧ (F.name == "runtime.NumGoroutine") = false := by
  refine dec_calls (f := 38) (lo := 1) (hi := 400) Tryd.envOk Tryd.mixed xq2_ok ((I38 n1 ap np mp tp)) ((V38 n1 ap np mp tp)) (J38 n1 ap np mp tp) (fn := mkFn Tryd.f38) (ts := [1, 4, 5, 6]) (n := 400) rfl (by decide) (by simp) (names_of rfl) ?_ ?_ ?_ h
  · intro s; cases s <;> exact ⟨hd_ok _ _, by simp [I38], names_of rfl, Nat.le_of_ble_eq_true rfl⟩
  · intro Kst Kret x hS hR h
    exact Holds.eq (te38 cond Kst Kret n1 ap np mp tp) (be38 n1 ap np mp tp Kst Kret x hS hR h)
  · intro Kst Kret x hS hR s h
    cases s with
    | h0 x0 x1 => exact Holds.eq (t38_0 cond Kst Kret n1 ap np mp tp x0 x1) (b38_0 n1 ap np mp tp Kst Kret x hS hR x0 x1 h)
    | h1 x0 x1 x2 => exact Holds.eq (t38_1 cond Kst Kret n1 ap np mp tp x0 x1 x2) (b38_1 n1 ap np mp tp Kst Kret x hS hR x0 x1 x2 h)
noncomputable abbrev w38 {α : Type} (g : Bool → Nat → Nat → Nat → (Nat → Int) → α) (x : (Bool × (Nat × Nat × Nat × (Nat → Int) × Unit) × Unit) × Unit) : α := g x.1.1 x.1.2.1.1 x.1.2.1.2.1 x.1.2.1.2.2.1 x.1.2.1.2.2.2.1
noncomputable def k38  : Con := ⟨38, [.agg [.plain (.bool), .list [.int .i64]]], w38 (fun n1 ap np mp tp => decide (ap + np ≤ mp ∧ np ≤ 1000000)), w38 (fun n1 ap np mp tp => (V38 n1 ap np mp tp) ((S.fmtS n1 np (fun j => tp (j + ap))).1, (S.fmtS n1 np (fun j => tp (j + ap))).2)), w38 (fun n1 ap np mp tp => (N38 n1 ap np mp tp) ((S.fmtS n1 np (fun j => tp (j + ap))).1, (S.fmtS n1 np (fun j => tp (j + ap))).2)), fun _ _ => .dead⟩
theorem s38e (n1 : Bool) (ap np mp : Nat) (tp : Nat → Int) (hk : S.okI n1 np (fun j => tp (j + ap)) = true) (h0 : np ≠ 0) (x : Int) (L : List Int) (hx : x < 0) (hl : L.length = 6 * np) (hd : ∀ j, j < L.length → 48 ≤ S.at' L j ∧ S.at' L j ≤ 57) (hv : (S.decN (fun j => S.at' L j - 48) L.length) = (S.val np (fun j => tp (j + ap)))) : Comes (q38 n1 ap np mp tp) (.h0 x L) (S.fmtW n1 (S.val np (fun j => tp (j + ap))), 0) := by
  obtain ⟨l1, g1, z1⟩ := okI_iff.mp hk
  have vp := val_pos g1 (by omega)
  have us : (S.ofB (fun j => S.at' L j) L.length).size = L.length := ofB_size
  have uk : ∀ j, j < L.length → keys (S.ofB (fun j => S.at' L j) L.length) j = S.at' L j := fun j hj => keys_ofB (f := fun j => S.at' L j) hj (by have := hd j hj; (try dsimp only); omega)
  obtain ⟨u, hu⟩ : ∃ u, S.ofB (fun j => S.at' L j) L.length = u := ⟨_, rfl⟩
  rw [hu] at us uk
  have ud : ∀ j, j < u.size → 48 ≤ keys u j ∧ keys u j ≤ 57 := fun j hj => by rw [uk j (by omega)]; exact hd j (by omega)
  have uv : S.decW u u.size = (S.val np (fun j => tp (j + ap))) := by
    rw [us, ← hv]
    exact decN_congr fun j hj => by rw [uk j hj]
  obtain ⟨t1, t2, t3⟩ := tri_ok (n := u.size) rfl ud (by rw [uv]; exact vp)
  have hf : S.numW (S.val np (fun j => tp (j + ap))) = S.triS u 48 := num_is t1 (t2.trans uv)
  unfold S.fmtW
  rw [hf]
  have t3 : (S.triS u 48).size ≤ u.size := t3
  clear uv hv
  apply Comes.of
  show Goes _ _ _
  rw [q38]
  skip
  simp only [hu, eqS_nil]
  generalize S.triS u 48 = w at *
  cases n1
  · rw [if_neg Bool.false_ne_true]
    repeat' (first | with_reducible refine goes_if (fun h => ?_) (fun h => ?_) <;> (try simp only [SH] at h) | exact goes_none.mpr (by omega))
    all_goals first | (exfalso; omega) | exact goes_inr.mpr rfl
  · rw [if_pos rfl]
    repeat' (first | with_reducible refine goes_if (fun h => ?_) (fun h => ?_) <;> (try simp only [SH] at h) | exact goes_none.mpr (by omega))
    all_goals first | (exfalso; omega) | exact goes_inr.mpr rfl
theorem s38i (n1 : Bool) (ap np mp : Nat) (tp : Nat → Int) (hp : ap + np ≤ mp ∧ np ≤ 1000000) (hk : S.okI n1 np (fun j => tp (j + ap)) = true) (i : Nat) (hi : i < np) (X : Int) (hC : ∀ L : List Int, L.length = 6 * (np - i) → (∀ j, j < L.length → 48 ≤ S.at' L j ∧ S.at' L j ≤ 57) → (S.decN (fun j => S.at' L j - 48) L.length) = X * 1000000 + tp (i + ap) → Comes (q38 n1 ap np mp tp) (.h0 ((i : Int) - 1) L) (S.fmtW n1 (S.val np (fun j => tp (j + ap))), 0)) : ∀ (m k : Nat) (L : List Int), k + m = 6 → L.length = 6 * (np - (i + 1)) + k → (∀ j, j < L.length → 48 ≤ S.at' L j ∧ S.at' L j ≤ 57) → (S.decN (fun j => S.at' L j - 48) L.length) = X * pT k + tp (i + ap) / pT m → Comes (q38 n1 ap np mp tp) (.h1 (i : Int) (pT m / 10) L) (S.fmtW n1 (S.val np (fun j => tp (j + ap))), 0) := by
  obtain ⟨l1, g1, z1⟩ := okI_iff.mp hk
  have hx := (okG_iff.mp g1).1 i hi
  (try dsimp only at hx)
  obtain ⟨hp1, hp2⟩ := hp
  intro m
  induction m with
  | zero =>
    intro k L hkm hl hd hv
    obtain rfl : k = 6 := by omega
    have p6 : pT 6 = 1000000 := by decide
    have e0 : tp (i + ap) / pT 0 = tp (i + ap) := Int.ediv_one _
    rw [p6, e0] at hv
    have := hC L (by omega) hd hv
    have z : pT 0 / 10 = 0 := by decide
    rw [z]
    generalize (S.fmtW n1 (S.val np (fun j => tp (j + ap))), 0) = R at *
    clear hC hv
    apply Comes.of
    show Goes _ _ _
    rw [q38]
    skip
    repeat' (first | with_reducible refine goes_if (fun h => ?_) (fun h => ?_) <;> (try simp only [SH] at h) | exact goes_none.mpr (by omega))
    all_goals first | (exfalso; omega) | exact this
  | succ m ih =>
    intro k L hkm hl hd hv
    have pp := p10_pos (n := m)
    have p6 := p10_6 (n := m) (by omega)
    have e0 : pT (m + 1) / 10 = pT m := by show 10 * pT m / 10 = _; omega
    have g0 : 0 ≤ tp (i + ap) / pT m := Int.ediv_nonneg hx.1 (by omega)
    have gl : tp (i + ap) / pT m ≤ tp (i + ap) := Int.ediv_le_self _ hx.1
    have e1 : tp (i + ap) / pT (m + 1) = tp (i + ap) / pT m / 10 := by
      show tp (i + ap) / (10 * pT m) = _
      rw [Int.mul_comm, Int.ediv_ediv_of_nonneg (by omega)]
    have t0 : Int.tdiv (tp (i + ap)) (pT m) = tp (i + ap) / pT m := Int.tdiv_eq_ediv_of_nonneg hx.1
    rw [e1] at hv
    generalize hg : tp (i + ap) / pT m = g at *
    have t1 : Int.tmod g 10 = g % 10 := Int.tmod_eq_emod_of_nonneg g0
    have t2 : Int.tdiv (pT m) 10 = pT m / 10 := Int.tdiv_eq_ediv_of_nonneg (by omega)
    have w8 : IntKind.u8.wrap (48 + g % 10) = 48 + g % 10 := by
      show (48 + g % 10) % 256 = _
      omega
    have ih := ih (k + 1) (S.snoc L (48 + g % 10)) (by omega) (by rw [snoc_len]; omega) (digL_snoc hd (by omega)) (by
      rw [decL_snoc, hv]
      show _ = X * (10 * pT k) + g
      rw [Int.mul_left_comm X 10]
      omega)
    rw [e0]
    generalize (S.fmtW n1 (S.val np (fun j => tp (j + ap))), 0) = R at *
    clear hC hv e0 e1
    generalize pT m = P at *
    apply Comes.of
    show Goes _ _ _
    rw [q38]
    skip
    simp only [Int.toNat_natCast, t0, t1, t2, w8]
    repeat' (first | with_reducible refine goes_if (fun h => ?_) (fun h => ?_) <;> (try simp only [SH] at h) | exact goes_none.mpr (by omega))
    all_goals first | (exfalso; omega) | exact ih
theorem s38o (n1 : Bool) (ap np mp : Nat) (tp : Nat → Int) (hp : ap + np ≤ mp ∧ np ≤ 1000000) (hk : S.okI n1 np (fun j => tp (j + ap)) = true) (h0 : np ≠ 0) : ∀ (i : Nat) (L : List Int), i ≤ np → L.length = 6 * (np - i) → (∀ j, j < L.length → 48 ≤ S.at' L j ∧ S.at' L j ≤ 57) → (S.decN (fun j => S.at' L j - 48) L.length) = S.valF (fun j => tp (j + ap)) i (np - i) → Comes (q38 n1 ap np mp tp) (.h0 ((i : Int) - 1) L) (S.fmtW n1 (S.val np (fun j => tp (j + ap))), 0) := by
  have l1 := (okI_iff.mp hk).1
  intro i
  induction i with
  | zero =>
    intro L hi hl hd hv
    exact s38e n1 ap np mp tp hk h0 _ L (by omega) hl hd hv
  | succ i ih =>
    intro L hi hl hd hv
    have s1 := suf_step (t := (fun j => tp (j + ap))) (n := np) (i := i) (by omega)
    (try dsimp only at s1)
    have hm := s38i n1 ap np mp tp hp hk i (by omega) (S.valF (fun j => tp (j + ap)) (i + 1) (np - (i + 1))) (fun L h1 h2 h3 => ih L (by omega) h1 h2 (by rw [h3, s1]; omega)) 6 0 L (by omega) hl hd (by
      have p6 : pT 6 = 1000000 := by decide
      have hx := (okG_iff.mp (okI_iff.mp hk).2.1).1 i (by omega)
      (try dsimp only at hx)
      rw [hv, p6, Int.ediv_eq_zero_of_lt hx.1 hx.2]
      show _ = _ * 1 + 0
      omega)
    have p6 : pT 6 / 10 = 100000 := by decide
    rw [p6] at hm
    have e1 : (((i + 1 : Nat) : Int) - 1) = i := by omega
    rw [e1]
    generalize (S.fmtW n1 (S.val np (fun j => tp (j + ap))), 0) = R at *
    clear hv s1
    apply Comes.of
    show Goes _ _ _
    rw [q38]
    skip
    repeat' (first | with_reducible refine goes_if (fun h => ?_) (fun h => ?_) <;> (try simp only [SH] at h) | exact goes_none.mpr (by omega))
    all_goals first | (exfalso; omega) | exact hm
theorem s38 (n1 : Bool) (ap np mp : Nat) (tp : Nat → Int) (hp : ap + np ≤ mp ∧ np ≤ 1000000) : Goes ((q38 n1 ap np mp tp)) ((p38 n1 ap np mp tp)) (((S.fmtS n1 np (fun j => tp (j + ap))).1, (S.fmtS n1 np (fun j => tp (j + ap))).2)) := by
  show Goes _ _ (S.fmtS n1 np (fun j => tp (j + ap)))
  have d1 : ap + np ≤ mp ∧ np ≤ 1000000 := hp
  unfold S.fmtS
  by_cases g1 : S.okI n1 np (fun j => tp (j + ap)) = true
  · rw [if_pos g1]
    obtain ⟨l1, k1, z1⟩ := okI_iff.mp g1
    by_cases h0 : np = 0
    · have hv0 : (S.val np (fun j => tp (j + ap))) = 0 := by subst h0; rfl
      have hng : n1 = false := by
        rcases z1 with h | h
        · omega
        · exact h
      subst hng
      unfold S.fmtW
      rw [if_neg Bool.false_ne_true, hv0, num_is nat_zero.1 nat_zero.2]
      unfold p38
      refine goes_ok (decide_eq_true d1) (goes_ok g1 (goes_ok (by rw [h0]; rfl) (goes_inr.mpr rfl)))
    · have hm := s38o n1 ap np mp tp hp g1 h0 np [] (Nat.le_refl _) (by simp) (fun j hj => absurd hj (Nat.not_lt_zero j)) (by rw [Nat.sub_self]; rfl)
      unfold p38
      refine goes_ok (decide_eq_true d1) (goes_ok g1 (goes_no (by rw [beq_eq_false_iff_ne]; omega) ?_))
      generalize (S.fmtW n1 (S.val np (fun j => tp (j + ap))), 0) = R at *
      repeat' (first | with_reducible refine goes_if (fun h => ?_) (fun h => ?_) <;> (try simp only [SH] at h) | exact goes_none.mpr (by omega))
      all_goals first | (exfalso; omega) | exact hm
  · rw [if_neg g1]
    have g1 := Bool.eq_false_iff.mpr g1
    unfold p38
    exact goes_ok (decide_eq_true d1) (goes_no g1 (goes_inr.mpr rfl))
theorem k38_ok  : k38.ok Tryd.prog := by
  intro x hx
  obtain ⟨⟨n1, ⟨ap, np, mp, tp, _⟩, _⟩, _⟩ := x
  obtain ⟨h1, h2⟩ := a38 n1 ap np mp tp (s38 n1 ap np mp tp (of_dec hx rfl))
  exact ⟨⟨400, (by decide : 1 + 1 + 0 ≤ 400), h1⟩, h2⟩
noncomputable def xT10 (test : Bool → Prop → Prop → Prop) : Ext := consX test [k12, k38, k39, k40, k16, k20]
theorem xT10_ok  : ExtOk Tryd.prog (xT10 cond) := consX_ok ⟨k12_ok, k38_ok, k39_ok, k40_ok, k16_ok, k20_ok, trivial⟩
theorem okI_congr  {ng : Bool} {n : Nat} {t u : Nat → Int} (h : ∀ j, j < n → t j = u j) : S.okI ng n t = S.okI ng n u := by
  unfold S.okI S.okG
  rw [all_congr (q := fun j => S.digB (u j)) fun j hj => by rw [h j hj]]
  cases n with
  | zero => rfl
  | succ n => rw [h (n + 1 - 1) (by omega)]
section
variable {n1 n2 : Bool} {n m : Nat} {t u : Nat → Int}
end
theorem fmtS_mk  {n1 : Bool} {n : Nat} {t : Nat → Int} : S.fmtS n1 n (fun j => S.at' (S.mkl n t) j) = S.fmtS n1 n t := by
  unfold S.fmtS
  rw [okI_congr (u := t) fun j hj => at_mkl hj, val_congr (u := t) fun j hj => at_mkl hj]
theorem par_nat  {w : ByteArray} {ng : Bool} (h : S.natB w = true) (hz : w.size ≤ 480) (hn : ng = true → 0 < S.decW w w.size) : S.parW ng w = (S.sgB ng (S.decW w w.size), 0, S.grp (S.decW w w.size)) := by
  unfold S.parW
  rw [if_pos, if_neg (by omega)]
  refine ⟨h, fun h2 => ?_⟩
  have := hn h2.1
  have e : S.decW w w.size = 0 * 10 + (keys w 0 - 48) := by rw [h2.2.1]; rfl
  omega
theorem neg_sub  {w : ByteArray} : S.subS (ByteArray.mk #[(45 : UInt8)] ++ w) 1 (ByteArray.mk #[(45 : UInt8)] ++ w).size = w := by
  have s1 : (ByteArray.mk #[(45 : UInt8)]).size = 1 := rfl
  have hs : (ByteArray.mk #[(45 : UInt8)] ++ w).size = w.size + 1 := by rw [app_size, s1]; omega
  have h2 : (S.subS (ByteArray.mk #[(45 : UInt8)] ++ w) 1 (ByteArray.mk #[(45 : UInt8)] ++ w).size).size = w.size := by rw [sub_size (Nat.le_refl _)]; omega
  refine keys_ext h2 fun j hj => ?_
  rw [keys_sub (Nat.le_refl _) (by omega), keys_app, if_neg (by rw [s1]; omega), s1, show 1 + j - 1 = j by omega]
theorem neg_isM  {w : ByteArray} : S.isM (ByteArray.mk #[(45 : UInt8)] ++ w) = true := by
  have s1 : (ByteArray.mk #[(45 : UInt8)]).size = 1 := rfl
  refine decide_eq_true ⟨by rw [app_size, s1]; omega, ?_⟩
  rw [keys_app, if_pos (by rw [s1]; omega)]
  rfl
theorem nat_notM  {w : ByteArray} (h : S.natB w = true) : S.isM w = false := by
  refine decide_eq_false fun h2 => ?_
  have := (nat_dig h).2 0 (by omega)
  omega
theorem num_ex  {V : Int} (h : 0 ≤ V) : ∃ w, S.natB w = true ∧ S.decW w w.size = V := by
  by_cases h0 : V = 0
  · subst h0
    exact ⟨_, nat_zero.1, nat_zero.2⟩
  · have key : ∀ (n : Nat) (V : Int), 0 < V → V.toNat ≤ n → ∃ w, S.natB w = true ∧ S.decW w w.size = V := by
      intro n
      induction n with
      | zero => intro V h1 h2; omega
      | succ n ih =>
        intro V h1 h2
        have one : ∀ c : Int, 0 ≤ c ∧ c ≤ 9 → (S.ofB (fun _ => 48 + c) 1).size = 1 ∧ keys (S.ofB (fun _ => 48 + c) 1) 0 = 48 + c := fun c hc => ⟨ofB_size, keys_ofB (f := fun _ => 48 + c) (by omega) (by (try dsimp only); omega)⟩
        by_cases hV : V < 10
        · obtain ⟨o1, o2⟩ := one V (by omega)
          refine ⟨S.ofB (fun _ => 48 + V) 1, natB_iff.mpr ⟨by omega, alD_iff.mpr fun j hj => ?_⟩, ?_⟩
          · obtain rfl : j = 0 := by omega
            omega
          · rw [o1]
            show 0 * 10 + (keys _ 0 - 48) = V
            rw [o2]; omega
        · obtain ⟨w, h3, h4⟩ := ih (V / 10) (by omega) (by omega)
          obtain ⟨o1, o2⟩ := one (V % 10) (by omega)
          obtain ⟨n1, n2⟩ := nat_dig h3
          have hs : (w ++ S.ofB (fun _ => 48 + V % 10) 1).size = w.size + 1 := by rw [app_size, o1]
          have kw : ∀ j, j < w.size → keys (w ++ S.ofB (fun _ => 48 + V % 10) 1) j = keys w j := fun j hj => by rw [keys_app, if_pos hj]
          have kl : keys (w ++ S.ofB (fun _ => 48 + V % 10) 1) w.size = 48 + V % 10 := by rw [keys_app, if_neg (by omega), Nat.sub_self, o2]
          refine ⟨w ++ S.ofB (fun _ => 48 + V % 10) 1, natB_iff.mpr ⟨?_, alD_iff.mpr fun j hj => ?_⟩, ?_⟩
          · rw [hs, kw 0 (by omega)]
            refine ⟨by omega, fun h5 => ?_⟩
            by_cases h6 : w.size > 1
            · exact n1.2 ⟨h6, h5.2⟩
            · have e1 : w.size = 1 := by omega
              rw [e1] at h4
              have : S.decW w 1 = 0 * 10 + (keys w 0 - 48) := rfl
              omega
          · by_cases hj2 : j < w.size
            · rw [kw j hj2]; have := n2 j hj2; omega
            · obtain rfl : j = w.size := by omega
              rw [kl]; omega
          · rw [hs]
            show S.decN _ w.size * 10 + (keys _ w.size - 48) = V
            rw [kl, decN_congr (g := fun j => keys w j - 48) fun j hj => by rw [kw j hj]]
            have : S.decN (fun j => keys w j - 48) w.size = V / 10 := h4
            omega
    exact key V.toNat V (by omega) (Nat.le_refl _)
theorem num_ok  {V : Int} (h : 0 ≤ V) : S.natB (S.numW V) = true ∧ S.decW (S.numW V) (S.numW V).size = V := by
  obtain ⟨w, h1, h2⟩ := num_ex h
  rw [num_is h1 h2]
  exact ⟨h1, h2⟩
theorem num_size  {V : Int} (h : 0 ≤ V) (hl : V < S.pw 80) : (S.numW V).size ≤ 480 := by
  obtain ⟨h1, h2⟩ := num_ok h
  refine Nat.not_lt.mp fun hc => ?_
  have := nat_ge h1 (by omega)
  have h3 := p10_mono (a := 6 * 80) (c := (S.numW V).size - 1) (by omega)
  rw [p10_pw] at h3
  omega
theorem fmt_par  {n1 : Bool} {n : Nat} {t : Nat → Int} (hk : S.okI n1 n t = true) : S.parS (S.fmtS n1 n t).1 = (n1, 0, S.mkl n t) ∧ (S.fmtS n1 n t).1.size ≤ 481 := by
  obtain ⟨l1, k1, z1⟩ := okI_iff.mp hk
  have v0 := val_nn (okG_D k1)
  have vl := val_lt (okG_D k1) (Nat.le_refl n)
  have hw := pw_mono (k := n) (m := 80) l1
  obtain ⟨a1, a2⟩ := num_ok v0
  have a3 := num_size v0 (by omega)
  have hg : S.grp (S.val n t) = S.mkl n t := (ok_grp k1).symm
  unfold S.fmtS
  rw [if_pos hk]
  unfold S.fmtW S.parS
  cases n1
  · rw [if_neg Bool.false_ne_true]
    dsimp only
    rw [nat_notM a1, if_neg Bool.false_ne_true, par_nat a1 a3 (fun h => by cases h), a2, hg]
    exact ⟨rfl, by omega⟩
  · have hn : 0 < n := by
      rcases z1 with h | h
      · exact h
      · cases h
    have vp := val_pos k1 hn
    rw [if_pos rfl]
    dsimp only
    rw [neg_isM, if_pos rfl, neg_sub, par_nat a1 a3 (fun _ => by rw [a2]; exact vp), a2, hg]
    refine ⟨?_, ?_⟩
    · unfold S.sgB
      rw [decide_eq_true vp]
      rfl
    · rw [app_size]
      have : (ByteArray.mk #[(45 : UInt8)]).size = 1 := rfl
      omega
noncomputable abbrev c10_e_0 (n1 : Bool) (ap np : Nat) (tp : NI) := S.fmtS n1 (List.length (S.mkl np fun j => tp (j + ap))) fun j => S.at' (S.mkl np fun j => tp (j + ap)) j
abbrev St10  := Empty
abbrev Rt10  := Bool
noncomputable def V10 (n1 : Bool) (ap np mp : Nat) (tp : NI) (r : Rt10) : PV := PV.bool r
noncomputable def N10 (n1 : Bool) (ap np mp : Nat) (tp : NI) (r : Rt10) : List Blk := []
noncomputable def I10 (n1 : Bool) (ap np mp : Nat) (tp : NI) : St10 → Hd := fun s => s.elim
noncomputable def q10 (n1 : Bool) (ap np mp : Nat) (tp : NI) : St10 → Option (St10 ⊕ Rt10) := fun s => s.elim
noncomputable def p10 (n1 : Bool) (ap np mp : Nat) (tp : NI) : Option (St10 ⊕ Rt10) := bif (lim .i64 ((0 : Int) + (↑np : Int))) then (bif (decide ((0 : Int) + (↑np : Int) ≤ 170)) then (bif (decide (ap + np ≤ mp ∧ np ≤ 1000000)) then (bif (decide (0 + List.length (S.mkl np fun j => tp (j + ap)) ≤ List.length (S.mkl np fun j => tp (j + ap)) ∧ List.length (S.mkl np fun j => tp (j + ap)) ≤ 1000000)) then (bif (!S.eqS (Prod.fst (c10_e_0 n1 ap np tp)) ((S.fmtS n1 np fun j => tp (j + ap)).1)) then (bif (S.eqS (Prod.fst (c10_e_0 n1 ap np tp)) ((S.fmtS n1 np fun j => tp (j + ap)).1)) then (bif (Prod.snd (c10_e_0 n1 ap np tp) == (S.fmtS n1 np fun j => tp (j + ap)).2) then (some (.inr (true))) else (some (.inr (false)))) else (some (.inr (false)))) else (bif (Prod.snd (c10_e_0 n1 ap np tp) != (S.fmtS n1 np fun j => tp (j + ap)).2) then (bif (S.eqS (Prod.fst (c10_e_0 n1 ap np tp)) ((S.fmtS n1 np fun j => tp (j + ap)).1)) then (bif (Prod.snd (c10_e_0 n1 ap np tp) == (S.fmtS n1 np fun j => tp (j + ap)).2) then (some (.inr (true))) else (some (.inr (false)))) else (some (.inr (false)))) else (bif (Prod.snd (c10_e_0 n1 ap np tp) != 0) then (bif (S.eqS (Prod.fst (c10_e_0 n1 ap np tp)) ((S.fmtS n1 np fun j => tp (j + ap)).1)) then (bif (Prod.snd (c10_e_0 n1 ap np tp) == (S.fmtS n1 np fun j => tp (j + ap)).2) then (some (.inr (true))) else (some (.inr (false)))) else (some (.inr (false)))) else (bif (decide (ByteArray.size (Prod.fst (c10_e_0 n1 ap np tp)) ≤ 1000000)) then (bif (Prod.fst (Prod.snd (S.parS (Prod.fst (c10_e_0 n1 ap np tp)))) == 0) then (bif (decide ((ap + np ≤ mp ∧ np ≤ 1000000) ∧ 0 + List.length (Prod.snd (Prod.snd (S.parS (Prod.fst (c10_e_0 n1 ap np tp))))) ≤ List.length (Prod.snd (Prod.snd (S.parS (Prod.fst (c10_e_0 n1 ap np tp))))) ∧ List.length (Prod.snd (Prod.snd (S.parS (Prod.fst (c10_e_0 n1 ap np tp))))) ≤ 1000000)) then (bif (S.samI n1 np (fun j => tp (j + ap)) (Prod.fst (S.parS (Prod.fst (c10_e_0 n1 ap np tp)))) (List.length (Prod.snd (Prod.snd (S.parS (Prod.fst (c10_e_0 n1 ap np tp)))))) fun j => S.at' (Prod.snd (Prod.snd (S.parS (Prod.fst (c10_e_0 n1 ap np tp))))) j) then (some (.inr (true))) else (some (.inr (false)))) else (none)) else (some (.inr (false)))) else (none))))) else (none)) else (none)) else (some (.inr (true)))) else (none)
noncomputable def Te10 (test : TT) (Kst : KS) (Kret : KR) (n1 : Bool) (ap np mp : Nat) (tp : NI) : Prop := test (true) (test (true) (test (true) (test (true) (test (lim .i64 ((0 : Int) + (↑np : Int))) (test (true) (test (false) (test (false) (False) (False)) (test (decide ((0 : Int) + (↑np : Int) ≤ 170)) (test (decide (ap + np ≤ mp ∧ np ≤ 1000000)) (test (decide (0 + List.length (S.mkl np fun j => tp (j + ap)) ≤ List.length (S.mkl np fun j => tp (j + ap)) ∧ List.length (S.mkl np fun j => tp (j + ap)) ≤ 1000000)) (test (decide (ap + np ≤ mp ∧ np ≤ 1000000)) (test (!S.eqS (Prod.fst (c10_e_0 n1 ap np tp)) ((S.fmtS n1 np fun j => tp (j + ap)).1)) (test (S.eqS (Prod.fst (c10_e_0 n1 ap np tp)) ((S.fmtS n1 np fun j => tp (j + ap)).1)) (test (Prod.snd (c10_e_0 n1 ap np tp) == (S.fmtS n1 np fun j => tp (j + ap)).2) (Kret (PV.tf true) ([[(0, false, Blk.cols mp [Col.int .i64 tp])]]) (8)) (Kret (PV.tf false) ([[(0, false, Blk.cols mp [Col.int .i64 tp])]]) (8))) (Kret (PV.tf false) ([[(0, false, Blk.cols mp [Col.int .i64 tp])]]) (8))) (test (Prod.snd (c10_e_0 n1 ap np tp) != (S.fmtS n1 np fun j => tp (j + ap)).2) (test (S.eqS (Prod.fst (c10_e_0 n1 ap np tp)) ((S.fmtS n1 np fun j => tp (j + ap)).1)) (test (Prod.snd (c10_e_0 n1 ap np tp) == (S.fmtS n1 np fun j => tp (j + ap)).2) (Kret (PV.tf true) ([[(0, false, Blk.cols mp [Col.int .i64 tp])]]) (8)) (Kret (PV.tf false) ([[(0, false, Blk.cols mp [Col.int .i64 tp])]]) (8))) (Kret (PV.tf false) ([[(0, false, Blk.cols mp [Col.int .i64 tp])]]) (8))) (test (Prod.snd (c10_e_0 n1 ap np tp) != 0) (test (S.eqS (Prod.fst (c10_e_0 n1 ap np tp)) ((S.fmtS n1 np fun j => tp (j + ap)).1)) (test (Prod.snd (c10_e_0 n1 ap np tp) == (S.fmtS n1 np fun j => tp (j + ap)).2) (Kret (PV.tf true) ([[(0, false, Blk.cols mp [Col.int .i64 tp])]]) (8)) (Kret (PV.tf false) ([[(0, false, Blk.cols mp [Col.int .i64 tp])]]) (8))) (Kret (PV.tf false) ([[(0, false, Blk.cols mp [Col.int .i64 tp])]]) (8))) (test (decide (ByteArray.size (Prod.fst (c10_e_0 n1 ap np tp)) ≤ 1000000)) (test (Prod.fst (Prod.snd (S.parS (Prod.fst (c10_e_0 n1 ap np tp)))) == 0) (test (decide ((ap + np ≤ mp ∧ np ≤ 1000000) ∧ 0 + List.length (Prod.snd (Prod.snd (S.parS (Prod.fst (c10_e_0 n1 ap np tp))))) ≤ List.length (Prod.snd (Prod.snd (S.parS (Prod.fst (c10_e_0 n1 ap np tp))))) ∧ List.length (Prod.snd (Prod.snd (S.parS (Prod.fst (c10_e_0 n1 ap np tp))))) ≤ 1000000)) (test (S.samI n1 np (fun j => tp (j + ap)) (Prod.fst (S.parS (Prod.fst (c10_e_0 n1 ap np tp)))) (List.length (Prod.snd (Prod.snd (S.parS (Prod.fst (c10_e_0 n1 ap np tp)))))) fun j => S.at' (Prod.snd (Prod.snd (S.parS (Prod.fst (c10_e_0 n1 ap np tp))))) j) (Kret (PV.tf true) ([[(0, false, Blk.cols mp [Col.int .i64 tp])]]) (12)) (Kret (PV.tf false) ([[(0, false, Blk.cols mp [Col.int .i64 tp])]]) (12))) (False)) (Kret (PV.tf false) ([[(0, false, Blk.cols mp [Col.int .i64 tp])]]) (11))) (False))))) (False)) (False)) (False)) (test (true) (test (true) (Kret (PV.tf true) ([[(0, false, Blk.cols mp [Col.int .i64 tp])]]) (5)) (Kret (PV.tf false) ([[(0, false, Blk.cols mp [Col.int .i64 tp])]]) (5))) (False)))) (False)) (False)) (False)) (test (true) (test (decide (ap + np ≤ mp ∧ np ≤ 1000000)) (test (decide (0 + List.length (S.mkl np fun j => tp (j + ap)) ≤ List.length (S.mkl np fun j => tp (j + ap)) ∧ List.length (S.mkl np fun j => tp (j + ap)) ≤ 1000000)) (test (decide (ap + np ≤ mp ∧ np ≤ 1000000)) (test (!S.eqS (Prod.fst (c10_e_0 n1 ap np tp)) ((S.fmtS n1 np fun j => tp (j + ap)).1)) (test (S.eqS (Prod.fst (c10_e_0 n1 ap np tp)) ((S.fmtS n1 np fun j => tp (j + ap)).1)) (test (Prod.snd (c10_e_0 n1 ap np tp) == (S.fmtS n1 np fun j => tp (j + ap)).2) (Kret (PV.tf true) ([[(0, false, Blk.cols mp [Col.int .i64 tp])]]) (8)) (Kret (PV.tf false) ([[(0, false, Blk.cols mp [Col.int .i64 tp])]]) (8))) (Kret (PV.tf false) ([[(0, false, Blk.cols mp [Col.int .i64 tp])]]) (8))) (test (Prod.snd (c10_e_0 n1 ap np tp) != (S.fmtS n1 np fun j => tp (j + ap)).2) (test (S.eqS (Prod.fst (c10_e_0 n1 ap np tp)) ((S.fmtS n1 np fun j => tp (j + ap)).1)) (test (Prod.snd (c10_e_0 n1 ap np tp) == (S.fmtS n1 np fun j => tp (j + ap)).2) (Kret (PV.tf true) ([[(0, false, Blk.cols mp [Col.int .i64 tp])]]) (8)) (Kret (PV.tf false) ([[(0, false, Blk.cols mp [Col.int .i64 tp])]]) (8))) (Kret (PV.tf false) ([[(0, false, Blk.cols mp [Col.int .i64 tp])]]) (8))) (test (Prod.snd (c10_e_0 n1 ap np tp) != 0) (test (S.eqS (Prod.fst (c10_e_0 n1 ap np tp)) ((S.fmtS n1 np fun j => tp (j + ap)).1)) (test (Prod.snd (c10_e_0 n1 ap np tp) == (S.fmtS n1 np fun j => tp (j + ap)).2) (Kret (PV.tf true) ([[(0, false, Blk.cols mp [Col.int .i64 tp])]]) (8)) (Kret (PV.tf false) ([[(0, false, Blk.cols mp [Col.int .i64 tp])]]) (8))) (Kret (PV.tf false) ([[(0, false, Blk.cols mp [Col.int .i64 tp])]]) (8))) (test (decide (ByteArray.size (Prod.fst (c10_e_0 n1 ap np tp)) ≤ 1000000)) (test (Prod.fst (Prod.snd (S.parS (Prod.fst (c10_e_0 n1 ap np tp)))) == 0) (test (decide ((ap + np ≤ mp ∧ np ≤ 1000000) ∧ 0 + List.length (Prod.snd (Prod.snd (S.parS (Prod.fst (c10_e_0 n1 ap np tp))))) ≤ List.length (Prod.snd (Prod.snd (S.parS (Prod.fst (c10_e_0 n1 ap np tp))))) ∧ List.length (Prod.snd (Prod.snd (S.parS (Prod.fst (c10_e_0 n1 ap np tp))))) ≤ 1000000)) (test (S.samI n1 np (fun j => tp (j + ap)) (Prod.fst (S.parS (Prod.fst (c10_e_0 n1 ap np tp)))) (List.length (Prod.snd (Prod.snd (S.parS (Prod.fst (c10_e_0 n1 ap np tp)))))) fun j => S.at' (Prod.snd (Prod.snd (S.parS (Prod.fst (c10_e_0 n1 ap np tp))))) j) (Kret (PV.tf true) ([[(0, false, Blk.cols mp [Col.int .i64 tp])]]) (12)) (Kret (PV.tf false) ([[(0, false, Blk.cols mp [Col.int .i64 tp])]]) (12))) (False)) (Kret (PV.tf false) ([[(0, false, Blk.cols mp [Col.int .i64 tp])]]) (11))) (False))))) (False)) (False)) (False)) (test (true) (test (true) (Kret (PV.tf true) ([[(0, false, Blk.cols mp [Col.int .i64 tp])]]) (5)) (Kret (PV.tf false) ([[(0, false, Blk.cols mp [Col.int .i64 tp])]]) (5))) (False)))) (test (true) (test (true) (Kret (PV.tf true) ([[(0, false, Blk.cols mp [Col.int .i64 tp])]]) (4)) (Kret (PV.tf false) ([[(0, false, Blk.cols mp [Col.int .i64 tp])]]) (4))) (False))) (False)
theorem te10 (test : TT) (Kst : KS) (Kret : KR) (n1 : Bool) (ap np mp : Nat) (tp : NI) : run test Tryd.env true (xT10 test) true 400 ⟨10, [.cd (mkFn Tryd.f10).body], argT 0 [.agg [.bool n1, .loose ⟨0, 1, ap, 0⟩ np]], [[], [(0, (false, .cols mp [.int .i64 tp]))]], 1⟩ (proj 1 [] Kst Kret) =
  Te10 test Kst Kret n1 ap np mp tp := by kernel_rfl
noncomputable abbrev J10 (n1 : Bool) (ap np mp : Nat) (tp : NI) : Rt10 → Heap := fun r => [newL (1 + 1) ((N10 n1 ap np mp tp) r) ++ [(0, (false, .cols mp [.int .i64 tp]))]]
attribute [local irreducible] Int.subNatNat in
theorem be10 (n1 : Bool) (ap np mp : Nat) (tp : NI) (Kst : KS) (Kret : KR) (x : St10 ⊕ Rt10) (hS : HS 1 400 ((I10 n1 ap np mp tp)) Kst x) (hR : HR 1 400 ((V10 n1 ap np mp tp)) (J10 n1 ap np mp tp) Kret x) (h : p10 n1 ap np mp tp = some x) : Te10 cond Kst Kret n1 ap np mp tp := by
  unfold Te10
  unfold p10 at h
  exact cond_yes rfl (cond_yes rfl (cond_yes rfl (cond_yes rfl (bif_split h (fun c0 h => cond_yes rfl (cond_no rfl (bif_split h (fun c1 h => bif_split h (fun c2 h => bif_split h (fun c3 h => cond_yes c2 (bif_split h (fun c4 h => bif_split h (fun c5 h => bif_split h (fun c6 h => ret_at hR _ h (fun n => n) rfl rfl rfl (rn_bool_tf rfl) rfl (entl_bor (use_lo rfl) rfl rfl entl_nil)) (fun c6 h => ret_at hR _ h (fun n => n) rfl rfl rfl (rn_bool_tf rfl) rfl (entl_bor (use_lo rfl) rfl rfl entl_nil))) (fun c5 h => ret_at hR _ h (fun n => n) rfl rfl rfl (rn_bool_tf rfl) rfl (entl_bor (use_lo rfl) rfl rfl entl_nil))) (fun c4 h => bif_split h (fun c5 h => bif_split h (fun c6 h => bif_split h (fun c7 h => ret_at hR _ h (fun n => n) rfl rfl rfl (rn_bool_tf rfl) rfl (entl_bor (use_lo rfl) rfl rfl entl_nil)) (fun c7 h => ret_at hR _ h (fun n => n) rfl rfl rfl (rn_bool_tf rfl) rfl (entl_bor (use_lo rfl) rfl rfl entl_nil))) (fun c6 h => ret_at hR _ h (fun n => n) rfl rfl rfl (rn_bool_tf rfl) rfl (entl_bor (use_lo rfl) rfl rfl entl_nil))) (fun c5 h => bif_split h (fun c6 h => bif_split h (fun c7 h => bif_split h (fun c8 h => ret_at hR _ h (fun n => n) rfl rfl rfl (rn_bool_tf rfl) rfl (entl_bor (use_lo rfl) rfl rfl entl_nil)) (fun c8 h => ret_at hR _ h (fun n => n) rfl rfl rfl (rn_bool_tf rfl) rfl (entl_bor (use_lo rfl) rfl rfl entl_nil))) (fun c7 h => ret_at hR _ h (fun n => n) rfl rfl rfl (rn_bool_tf rfl) rfl (entl_bor (use_lo rfl) rfl rfl entl_nil))) (fun c6 h => bif_split h (fun c7 h => bif_split h (fun c8 h => bif_split h (fun c9 h => bif_split h (fun c10 h => ret_at hR _ h (fun n => n) rfl rfl rfl (rn_bool_tf rfl) rfl (entl_bor (use_lo rfl) rfl rfl entl_nil)) (fun c10 h => ret_at hR _ h (fun n => n) rfl rfl rfl (rn_bool_tf rfl) rfl (entl_bor (use_lo rfl) rfl rfl entl_nil))) (fun c9 h => no_some h)) (fun c8 h => ret_at hR _ h (fun n => n) rfl rfl rfl (rn_bool_tf rfl) rfl (entl_bor (use_lo rfl) rfl rfl entl_nil))) (fun c7 h => no_some h)))))) (fun c3 h => no_some h)) (fun c2 h => no_some h)) (fun c1 h => cond_yes rfl (cond_yes rfl (ret_at hR _ h (fun n => n) rfl rfl rfl (rn_bool_tf rfl) rfl (entl_bor (use_lo rfl) rfl rfl entl_nil))))))) (fun c0 h => no_some h)))))
theorem a10 (n1 : Bool) (ap np mp : Nat) (tp : NI) {r : Rt10} (h : Goes ((q10 n1 ap np mp tp)) ((p10 n1 ap np mp tp)) r) : CallR Tryd.prog 10 [.agg [.bool n1, .loose ⟨0, 1, ap, 0⟩ np]] [[(0, (false, .cols mp [.int .i64 tp]))]] 1 ((V10 n1 ap np mp tp) r) ((J10 n1 ap np mp tp) r) 400 ∧ ∃ F, Tryd.prog.funcs[10]? = some F ∧ F.body.isSome = true ∧ (F.name == "runtime.NumGoroutine") = false := by
  refine dec_calls (f := 10) (lo := 1) (hi := 400) Tryd.envOk Tryd.mixed xT10_ok ((I10 n1 ap np mp tp)) ((V10 n1 ap np mp tp)) (J10 n1 ap np mp tp) (fn := mkFn Tryd.f10) (ts := []) (n := 400) rfl (by decide) (by simp) (names_of rfl) ?_ ?_ ?_ h
  · intro s; exact s.elim
  · intro Kst Kret x hS hR h
    exact Holds.eq (te10 cond Kst Kret n1 ap np mp tp) (be10 n1 ap np mp tp Kst Kret x hS hR h)
  · intro Kst Kret x hS hR s h; exact s.elim
noncomputable abbrev w10 {α : Type} (g : Bool → Nat → Nat → Nat → (Nat → Int) → α) (x : (Bool × (Nat × Nat × Nat × (Nat → Int) × Unit) × Unit) × Unit) : α := g x.1.1 x.1.2.1.1 x.1.2.1.2.1 x.1.2.1.2.2.1 x.1.2.1.2.2.2.1
noncomputable def k10  : Con := ⟨10, [.agg [.plain (.bool), .list [.int .i64]]], w10 (fun n1 ap np mp tp => decide (ap + np ≤ mp ∧ np ≤ reachBytes)), w10 (fun n1 ap np mp tp => (V10 n1 ap np mp tp) (true)), w10 (fun n1 ap np mp tp => (N10 n1 ap np mp tp) (true)), fun _ _ => .dead⟩
theorem s10 (n1 : Bool) (ap np mp : Nat) (tp : Nat → Int) (hp : ap + np ≤ mp ∧ np ≤ reachBytes) : Goes ((q10 n1 ap np mp tp)) ((p10 n1 ap np mp tp)) (true) := by
  obtain ⟨hp1, hp2⟩ := hp
  unfold reachBytes at hp2
  by_cases h0 : (0 : Int) + np ≤ 170
  rotate_left
  · unfold p10
    repeat' (first | with_reducible refine goes_if (fun h => ?_) (fun h => ?_) <;> (try simp only [SH] at h) | exact goes_none.mpr (by omega))
    all_goals first | (exfalso; omega) | exact goes_inr.mpr rfl
  have c0 : ap + np ≤ mp ∧ np ≤ 1000000 := ⟨hp1, by omega⟩
  have hE : S.eqS (S.fmtS n1 np (fun j => tp (j + ap))).1 (S.fmtS n1 np (fun j => tp (j + ap))).1 = true := eqS_iff.mpr rfl
  by_cases g1 : S.okI n1 np (fun j => tp (j + ap)) = true
  · obtain ⟨hP, hz⟩ := fmt_par g1
    have hA : (S.fmtS n1 np (fun j => tp (j + ap))).2 = 0 := by unfold S.fmtS; rw [if_pos g1]
    have hS : S.samI n1 np (fun j => tp (j + ap)) n1 np (fun j => S.at' (S.mkl np (fun j => tp (j + ap))) j) = true := decide_eq_true ⟨rfl, mkl_congr fun j hj => (at_mkl (f := fun j => tp (j + ap)) hj).symm⟩
    unfold p10
    simp only [-eq_self, c10_e_0, mkl_len, fmtS_mk, hE, hP, hS]
    generalize S.fmtS n1 np (fun j => tp (j + ap)) = A at *
    clear hP hS
    repeat' (first | with_reducible refine goes_if (fun h => ?_) (fun h => ?_) <;> (try simp only [SH, Bool.not_true] at h) | exact goes_none.mpr (by omega))
    all_goals first
      | exact goes_inr.mpr rfl
      | (exfalso; omega)
      | (exfalso; simp_all; done)
      | (exfalso; simp_all; omega)
  · have hA : (S.fmtS n1 np (fun j => tp (j + ap))).2 = 1 := by unfold S.fmtS; rw [if_neg g1]
    unfold p10
    simp only [-eq_self, c10_e_0, mkl_len, fmtS_mk, hE]
    generalize S.fmtS n1 np (fun j => tp (j + ap)) = A at *
    repeat' (first | with_reducible refine goes_if (fun h => ?_) (fun h => ?_) <;> (try simp only [SH, Bool.not_true] at h) | exact goes_none.mpr (by omega))
    all_goals first
      | exact goes_inr.mpr rfl
      | (exfalso; omega)
      | (exfalso; simp_all; done)
      | (exfalso; simp_all; omega)
end Go.Ev
